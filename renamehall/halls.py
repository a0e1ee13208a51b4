"""Halls: trees of drawers, in which slips lie [10] to [14]."""

from renamehall.errors import Fixed, Full, NoDrawer, NoHall, NoThing, NotEmpty, Taken
from renamehall.names import alike

MOST_THINGS = 60


def carried(path, moved, place):
    """Tell what a path is when the thing that had the path moved has gone to the place."""
    if path[:len(moved)] == moved:
        return place + path[len(moved):]
    return path


class Hall:
    """Drawers and slips; the mark of a drawer is None, that of a slip a whole number."""

    def __init__(self, rows, blind=False):
        self.blind = blind
        self.marks = {}
        drawers = {path: True for path, mark in rows if mark is None}
        for at, (path, mark) in enumerate(rows):
            drawer = path[:-1]
            if drawer != () and drawer not in drawers:
                raise NoHall(at)
            if self.there(path) is not None:
                raise NoHall(at)
            self.marks[path] = mark

    def rows(self):
        """Tell the path and the mark of each thing, sorted."""
        return sorted(self.marks.items())

    def is_blind(self):
        """Tell whether the hall is blind."""
        return self.blind

    def is_one_place(self, one, other):
        """Tell whether two paths are one place in this hall."""
        if one[:-1] != other[:-1]:
            return False
        if self.blind:
            return alike(one[-1], other[-1])
        return one[-1] == other[-1]

    def there(self, place):
        """Tell the path, as it is, of the thing that lies at a place, or None."""
        for path in self.marks:
            if self.is_one_place(path, place):
                return path
        return None

    def mark_of(self, path):
        """Tell the mark of the thing that has just this path."""
        self.ask_thing(path)
        return self.marks[path]

    def is_drawer(self, path):
        """Tell whether a path is a drawer's; () is the hall's own."""
        return path == () or (path in self.marks and self.marks[path] is None)

    def names_in(self, path):
        """Tell the names of what lies in a drawer, sorted."""
        self.ask_drawer(path)
        return sorted([thing[-1] for thing in self.marks if thing[:-1] == path])

    def put(self, path, mark):
        """Put a thing into the hall."""
        self.ask_drawer(path[:-1])
        other = self.there(path)
        if other is not None:
            raise Taken(other)
        if len(self.marks) >= MOST_THINGS:
            raise Full(f"{MOST_THINGS} things are there")
        self.marks[path] = mark

    def drop(self, path):
        """Take a thing out of the hall."""
        self.ask_thing(path)
        if self.is_drawer(path) and self.names_in(path) != []:
            raise NotEmpty(path)
        del self.marks[path]

    def move(self, path, place):
        """Take a thing to a place, a drawer with all that lies in it."""
        self.ask_thing(path)
        self.ask_drawer(place[:-1])
        if self.is_drawer(path) and place[:-1] != path[:-1]:
            raise Fixed(path)
        other = self.there(place)
        # In a blind hall the thing itself may lie at the place, under a name alike.
        if other is not None and (other != path or place == path):
            raise Taken(other)
        self.marks = {carried(thing, path, place): mark for thing, mark in self.marks.items()}

    def ask_thing(self, path):
        """Refuse a path that no thing has."""
        if path not in self.marks:
            raise NoThing(path)

    def ask_drawer(self, path):
        """Refuse a path that no drawer has."""
        if not self.is_drawer(path):
            raise NoDrawer(path)
