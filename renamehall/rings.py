"""Who stands behind whom: the rings and the chains of wishes [19]."""

from renamehall.wishes import all_places, ask_wishes


def things_that_move(places):
    """Tell the things whose places, handed in by their paths, are not their paths."""
    return [path for path in places if places[path] != path]


def next_ones(hall, places):
    """Tell by its path, of each thing that stands behind another one, the path of that one."""
    told = {}
    for path in things_that_move(places):
        other = hall.there(places[path])
        # In a blind hall the thing itself may lie at its place, under a name alike.
        if other is not None and other != path:
            told[path] = other
    return told


def asked_next_ones(hall, wishes):
    """Tell who moves, and who stands behind whom; NoWish, Meets."""
    ask_wishes(hall, wishes)
    places = all_places(hall, wishes)
    return things_that_move(places), next_ones(hall, places)


def from_thing_on(path, nexts):
    """Tell the things from this one on, each standing behind the next, up to the last or back to this one."""
    told = [path]
    while told[-1] in nexts and nexts[told[-1]] != path:
        told.append(nexts[told[-1]])
    return told


def rings(hall, wishes):
    """Tell the rings, each beginning with its least path, sorted; NoWish, Meets."""
    moving, nexts = asked_next_ones(hall, wishes)
    told = []
    for path in moving:
        ring = from_thing_on(path, nexts)
        if nexts.get(ring[-1]) == path and path == min(ring):
            told.append(ring)
    return sorted(told)


def chains(hall, wishes):
    """Tell the chains, each from the one on behind which none stands, sorted; NoWish, Meets."""
    moving, nexts = asked_next_ones(hall, wishes)
    followed = list(nexts.values())
    return sorted([from_thing_on(path, nexts) for path in moving if path not in followed])
