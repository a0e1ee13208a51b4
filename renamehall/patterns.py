"""Patterns and their parts [5]."""

from renamehall.errors import NoPattern
from renamehall.names import NAME_SIGNS

GAP_SIGNS = "?*#@"
MOST_GAPS = 9


def ask_signs(pattern):
    """Refuse the first sign that can't stand where it stands."""
    gaps = 0
    for at, sign in enumerate(pattern):
        if sign in GAP_SIGNS:
            gaps += 1
        if gaps > MOST_GAPS or sign not in GAP_SIGNS + NAME_SIGNS:
            raise NoPattern(at)


def text_parts(text):
    """Tell the parts that name signs side by side make: one, or none where there are no signs."""
    if text == "":
        return []
    return [("text", text)]


def parts_of(pattern):
    """Tell the parts of a pattern, in order."""
    if pattern == "":
        raise NoPattern(0)
    ask_signs(pattern)
    parts = []
    begin = 0
    for at, sign in enumerate(pattern):
        if sign in GAP_SIGNS:
            parts.extend(text_parts(pattern[begin:at]))
            parts.append(("gap", sign))
            begin = at + 1
    parts.extend(text_parts(pattern[begin:]))
    return parts
