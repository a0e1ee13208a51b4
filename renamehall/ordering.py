"""Rows of single moves that do wishes [20].

Things are told apart by the paths that they have first; what a row has made of these is reckoned from the row.
"""

from renamehall.errors import Broken
from renamehall.halls import carried
from renamehall.rings import chains, rings, things_that_move
from renamehall.walks import walk
from renamehall.wishes import all_places, ask_wishes, path_then


def path_behind(path, row):
    """Tell the path that a thing, or a drawer that may be (), has behind a row's moves."""
    for moved, place in row:
        path = carried(path, moved, place)
    return path


def spare_name(drawer, paths, row):
    """Tell a name that none of the things, by their first paths, has in the drawer behind the row's moves."""
    drawer_then = path_behind(drawer, row)
    paths_then = [path_behind(path, row) for path in paths]
    taken = [path[-1] for path in paths_then if path[:-1] == drawer_then]
    # Names of figures alone are alike no other ones, so they serve in a blind hall, too.
    number = 0
    while str(number) in taken:
        number += 1
    return str(number)


def put_move(row, path, place):
    """Put behind a row the move of a thing, which and whose place's drawer are called as they are first."""
    row.append((path_behind(path, row), path_behind(place[:-1], row) + place[-1:]))


def row_for(hall, wishes):
    """Tell a row that does the wishes, with one move for each thing that moves and each ring; NoWish, Meets."""
    ask_wishes(hall, wishes)
    places = all_places(hall, wishes)
    row = []
    for chain in chains(hall, wishes):
        for path in reversed(chain):
            put_move(row, path, places[path])
    for ring in rings(hall, wishes):
        drawer = ring[0][:-1]
        put_move(row, ring[0], drawer + (spare_name(drawer, places, row),))
        for path in reversed(ring):
            put_move(row, path, places[path])
    return row


def does(hall, wishes, row):
    """Tell whether a row does the wishes; NoWish, Meets."""
    ask_wishes(hall, wishes)
    try:
        walk(hall, row)
    except Broken:
        return False
    places = all_places(hall, wishes)
    return all([path_behind(path, row) == path_then(path, places) for path in places])


def more_moves(hall, wishes, row):
    """Tell how many moves more than things that move a row has, None where it doesn't do the wishes; NoWish, Meets."""
    if not does(hall, wishes, row):
        return None
    return len(row) - len(things_that_move(all_places(hall, wishes)))
