"""Doers, which do rows by small steps and keep books of them [23] to [25].

A row of n moves has n steps that write its moves, one that writes begin, and then two for each move: one makes it,
one writes that it is done. So the book hangs on the row and the number of steps behind alone.
"""

from renamehall.errors import Broken, NoBook, Strayed
from renamehall.names import read_path, show_path
from renamehall.walks import copied, turned_back, walk


def lines_of(row):
    """Tell the lines of a row's book when all is done."""
    lines = [f"move {show_path(path)} {show_path(place)}" for path, place in row]
    lines.append("begin")
    lines.extend([f"done {at}" for at in range(len(row))])
    return lines


class Doer:
    """A row that is done by small steps in a hall of its own."""

    def __init__(self, hall, row):
        walk(hall, row)
        self.held = copied(hall)
        self.moves = list(row)
        self.steps = 0

    def do(self, many):
        """Do so many small steps, or those that are left, where there are fewer."""
        for step in range(min(many, self.left())):
            self.do_one()

    def do_one(self):
        """Do one small step."""
        behind_begin = self.steps - len(self.moves) - 1
        # Each other step writes alone, and what is written is reckoned from the steps.
        if behind_begin >= 0 and behind_begin % 2 == 0:
            path, place = self.moves[behind_begin // 2]
            self.held.move(path, place)
        self.steps += 1

    def left(self):
        """Tell how many small steps are left."""
        return 3 * len(self.moves) + 1 - self.steps

    def book(self):
        """Tell the book as it is now."""
        to_begin = len(self.moves) + 1
        written = min(self.steps, to_begin) + max(self.steps - to_begin, 0) // 2
        return "".join([line + "\n" for line in lines_of(self.moves)[:written]])

    def hall(self):
        """Tell a copy of the hall as it is now."""
        return copied(self.held)


def read_move(line):
    """Read the line of a move; NoBook."""
    words = line.split(" ")
    if len(words) != 3 or words[0] != "move":
        raise NoBook("a line ahead of begin is no move")
    path = read_path(words[1])
    place = read_path(words[2])
    if path is None or place is None:
        raise NoBook("a move has a path that is none")
    return path, place


def read_book(text):
    """Tell the row of a book and how many of its moves have their done lines; NoBook."""
    # What stands behind the last line end is a piece of a line, amid the writing of which a stop came.
    lines = text.split("\n")[:-1]
    if "begin" not in lines:
        raise NoBook("there is no begin")
    row = [read_move(line) for line in lines[:lines.index("begin")]]
    if lines != lines_of(row)[:len(lines)]:
        raise NoBook("a line behind begin is not the next done")
    return row, len(lines) - len(row) - 1


def is_made_without_line(hall, row, done):
    """Tell whether the move behind those with done lines was made, too; Strayed."""
    if done == len(row):
        return False
    path, place = row[done]
    # In a blind hall another path than the one asked for may be told.
    if hall.there(path) == path:
        return False
    if hall.there(place) == place:
        return True
    raise Strayed(done)


def read_stop(hall, text):
    """Tell a book's row, and how many of its moves have their done lines, and how many were made; NoBook, Strayed."""
    row, done = read_book(text)
    if is_made_without_line(hall, row, done):
        return row, done, done + 1
    return row, done, done


def ask_rest(hall, row, made):
    """Refuse a row of which the moves behind those that were made can't be walked; Broken."""
    try:
        walk(hall, row[made:])
    except Broken as refusal:
        raise Broken(made + refusal.at) from None


def begun_again(hall, text):
    """Tell a doer that goes on from a hall and a book; NoBook, Strayed, Broken."""
    row, done, made = read_stop(hall, text)
    ask_rest(hall, row, made)
    # The row as a whole can't be walked from here, so the doer is made without it.
    doer = Doer(hall, [])
    doer.moves = row
    doer.steps = len(row) + 1 + made + done
    return doer


def way_back(hall, text):
    """Tell a doer of the moves that were made by a hall and a book, turned back; NoBook, Strayed, Broken."""
    row, done, made = read_stop(hall, text)
    return Doer(hall, turned_back(row[:made]))
