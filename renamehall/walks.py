"""Halls walked by rows of single moves, and rows turned back [21] [22]."""

from renamehall.errors import Broken, Fixed, NoDrawer, NoThing, Taken
from renamehall.halls import Hall


def copied(hall):
    """Tell a new hall that is as this one is now."""
    return Hall(hall.rows(), hall.is_blind())


def is_made(hall, path, place):
    """Make a move in the hall itself, and tell whether it was let by."""
    try:
        hall.move(path, place)
    except (Fixed, NoDrawer, NoThing, Taken):
        return False
    return True


def walk(hall, row):
    """Tell the new hall that comes of a row's moves, in order; Broken."""
    walked = copied(hall)
    for at, (path, place) in enumerate(row):
        if not is_made(walked, path, place):
            raise Broken(at)
    return walked


def turned_back(row):
    """Tell the row that leads back."""
    return [(place, path) for path, place in reversed(row)]
