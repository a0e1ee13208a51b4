"""Halls as texts [27]."""

from renamehall.errors import NoText
from renamehall.figures import read_number
from renamehall.halls import MOST_THINGS, Hall
from renamehall.names import read_path, show_path

MOST_MARK = 10 ** 9


def show_row(path, mark):
    """Write a row."""
    if mark is None:
        return f"drawer {show_path(path)}"
    return f"slip {show_path(path)} {mark}"


def show_hall(hall):
    """Write a hall."""
    lines = ["blind"] if hall.is_blind() else []
    lines.extend([show_row(path, mark) for path, mark in hall.rows()])
    return "\n".join(lines)


def read_row(line):
    """Read a row; None where the line writes none."""
    words = line.split(" ")
    if words[0] == "drawer" and len(words) == 2:
        mark = None
    elif words[0] == "slip" and len(words) == 3:
        mark = read_number(words[2], 0, MOST_MARK)
        if mark is None:
            return None
    else:
        return None
    path = read_path(words[1])
    if path is None:
        return None
    return path, mark


def read_hall(text):
    """Read a hall; NoText, NoHall."""
    if text == "":
        return Hall([])
    lines = text.split("\n")
    blind = lines[0] == "blind"
    rows = []
    for number, line in enumerate(lines):
        if number > 0 or not blind:
            row = read_row(line)
            if row is None or len(rows) == MOST_THINGS:
                raise NoText(number)
            rows.append(row)
    return Hall(rows, blind)
