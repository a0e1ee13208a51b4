"""The refusals: each class stands straight under HallError, none under another one."""


class HallError(ValueError):
    """Any refusal."""


class NoPattern(HallError):
    """A text that is no pattern; at tells how many signs stand ahead of the first wrong one."""

    def __init__(self, at):
        HallError.__init__(self, f"no pattern: wrong behind {at} signs")
        self.at = at


class NoTemplate(HallError):
    """A text that is no template; at tells how many signs stand ahead of the first wrong one."""

    def __init__(self, at):
        HallError.__init__(self, f"no template: wrong behind {at} signs")
        self.at = at


class NoHall(HallError):
    """Rows that make no hall; at is the index of the first wrong one."""

    def __init__(self, at):
        HallError.__init__(self, f"no hall: row {at} is wrong")
        self.at = at


class NoThing(HallError):
    """No thing has just that path."""

    def __init__(self, path):
        HallError.__init__(self, f"no thing has the path {path}")
        self.path = path


class NoDrawer(HallError):
    """No drawer has that path."""

    def __init__(self, path):
        HallError.__init__(self, f"no drawer has the path {path}")
        self.path = path


class Taken(HallError):
    """A thing lies at the place already; path is that thing's."""

    def __init__(self, path):
        HallError.__init__(self, f"the place is taken by {path}")
        self.path = path


class Fixed(HallError):
    """A drawer was to be moved out of the drawer in which it is; path is its own."""

    def __init__(self, path):
        HallError.__init__(self, f"the drawer {path} stays in its own drawer")
        self.path = path


class NotEmpty(HallError):
    """A drawer in which something lies was to be dropped."""

    def __init__(self, path):
        HallError.__init__(self, f"the drawer {path} is not empty")
        self.path = path


class NoWish(HallError):
    """A wish that can't be one; at is its index."""

    def __init__(self, at):
        HallError.__init__(self, f"no wish: the one at {at} is wrong")
        self.at = at


class Meets(HallError):
    """Two things would lie at one place."""

    def __init__(self, one, other, place):
        HallError.__init__(self, f"{one} and {other} would meet at {place}")
        self.one = one
        self.other = other
        self.place = place


class NoPlace(HallError):
    """The texts that a rule told for a thing are no place."""

    def __init__(self, path, texts):
        HallError.__init__(self, f"no place for {path}: {texts}")
        self.path = path
        self.texts = texts


class Broken(HallError):
    """A row that can't be walked; at is the index of the refused move."""

    def __init__(self, at):
        HallError.__init__(self, f"broken: move {at} can't be made")
        self.at = at


class Strayed(HallError):
    """A hall that doesn't fit its book; at is the move that is neither made nor still to be made."""

    def __init__(self, at):
        HallError.__init__(self, f"strayed: move {at} is neither made nor still to be made")
        self.at = at


class NoText(HallError):
    """A text that writes no hall; line is the number of the wrong line."""

    def __init__(self, line):
        HallError.__init__(self, f"no text: line {line} is wrong")
        self.line = line


class NoRule(HallError):
    """A rule that can't be one."""


class Full(HallError):
    """No more things, or no more rules, can be taken in."""


class NoBook(HallError):
    """A text that is no book."""


class NoSame(HallError):
    """Rules that can't be held against each other."""


class TooMuch(HallError):
    """Rules with too many signs to be held against each other."""


class NoLine(HallError):
    """A line that a desk doesn't know."""


class Busy(HallError):
    """A doer has small steps left."""


class NoDoer(HallError):
    """There is no doer, or no book to begin one from."""


class NoRules(HallError):
    """There are no rules."""
