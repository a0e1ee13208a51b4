"""Wishes, who meets by them, and their goal [15] to [17]."""

from renamehall.errors import Meets, NoWish


def is_wish(hall, path, place, places):
    """Tell whether a wish can stand behind those whose places are handed in by their paths."""
    # In a blind hall another path than the one asked for may be told.
    if hall.there(path) != path or path in places:
        return False
    if not hall.is_drawer(place[:-1]):
        return False
    return place[:-1] == path[:-1] or not hall.is_drawer(path)


def wished_places(hall, wishes):
    """Tell by its path the place of each thing that is wished for; NoWish."""
    places = {}
    for at, (path, place) in enumerate(wishes):
        if not is_wish(hall, path, place, places):
            raise NoWish(at)
        places[path] = place
    return places


def all_places(hall, wishes):
    """Tell by its path the place of each thing of the hall, its own where it isn't wished for; NoWish."""
    places = wished_places(hall, wishes)
    return {path: places.get(path, path) for path, mark in hall.rows()}


def meetings(hall, wishes):
    """Tell who would meet: two paths and a place each, sorted; NoWish."""
    places = all_places(hall, wishes)
    paths = sorted(places)
    told = []
    for at, one in enumerate(paths):
        for other in paths[at + 1:]:
            if hall.is_one_place(places[one], places[other]):
                told.append((one, other, places[one]))
    return told


def ask_wishes(hall, wishes):
    """Tell True of wishes that are let by; NoWish, Meets."""
    met = meetings(hall, wishes)
    if met != []:
        one, other, place = met[0]
        raise Meets(one, other, place)
    return True


def path_then(path, places):
    """Tell the path that a thing, or a drawer that may be (), has when all is done."""
    if path == ():
        return ()
    place = places[path]
    # A place tells its drawer as it is called now, and that one may be called otherwise then.
    return path_then(place[:-1], places) + place[-1:]


def goal(hall, wishes):
    """Tell the hall's rows, sorted, when all wishes are done at once; NoWish, Meets."""
    ask_wishes(hall, wishes)
    places = all_places(hall, wishes)
    return sorted([(path_then(path, places), mark) for path, mark in hall.rows()])
