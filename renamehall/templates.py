"""Templates and their pieces [6].

Each read_ def takes the template and where to read on, and tells the piece there and where the signs behind it begin.
"""

from renamehall.errors import NoTemplate
from renamehall.names import FIGURES, NAME_SIGNS

FROM_ONE = "123456789"
FROM_TWO = "23456789"
MOST_FIGURES = 9
CASES = {"u": "great", "l": "small"}


def asked(template, at, signs):
    """Tell the sign at that place; refused where none of the signs that can stand there does."""
    # Where the text ends too early, at is its length: one refusal serves for both.
    if at >= len(template) or template[at] not in signs:
        raise NoTemplate(at)
    return template[at]


def end_of(template, at, signs, most):
    """Tell where the signs that stand side by side from that place on end, of at most so many."""
    end = at
    while end < min(len(template), at + most) and template[end] in signs:
        end += 1
    return end


def read_count(template, at):
    """Read on behind the n of a count."""
    sign = asked(template, at, "}" + FROM_TWO)
    if sign == "}":
        return ("count", 1), at + 1
    asked(template, at + 1, "}")
    return ("count", int(sign)), at + 2


def read_noughts(template, at, gap):
    """Read on behind the z of a noughts."""
    width = asked(template, at, FROM_ONE)
    asked(template, at + 1, "}")
    return ("noughts", gap, int(width)), at + 2


def read_more(template, at, gap):
    """Read on behind the plus of a more."""
    first = asked(template, at, FIGURES)
    # A nought ahead is let by in 0 itself alone, so nothing but the brace can follow it.
    end = end_of(template, at, FIGURES, 1 if first == "0" else MOST_FIGURES)
    asked(template, end, "}")
    return ("more", gap, int(template[at:end])), end + 1


def read_gap(template, at, gap):
    """Read on behind the number of a gap."""
    sign = asked(template, at, "}ulz+")
    if sign == "}":
        return ("gap", gap), at + 1
    if sign == "z":
        return read_noughts(template, at + 1, gap)
    if sign == "+":
        return read_more(template, at + 1, gap)
    asked(template, at + 1, "}")
    return (CASES[sign], gap), at + 2


def read_mark(template, at):
    """Read on behind the brace that begins a mark."""
    sign = asked(template, at, "n" + FROM_ONE)
    if sign == "n":
        return read_count(template, at + 1)
    return read_gap(template, at + 1, int(sign))


def read_into(template, at):
    """Read an into."""
    if at == 0 or template[at - 1] == "/":
        raise NoTemplate(at)
    return ("into",), at + 1


def read_text(template, at):
    """Read the name signs that stand side by side."""
    asked(template, at, NAME_SIGNS)
    end = end_of(template, at, NAME_SIGNS, len(template))
    return ("text", template[at:end]), end


def read_piece(template, at):
    """Read one piece."""
    if template[at] == "{":
        return read_mark(template, at + 1)
    if template[at] == "/":
        return read_into(template, at)
    return read_text(template, at)


def pieces_of(template):
    """Tell the pieces of a template, in order."""
    pieces = []
    at = 0
    while at < len(template):
        piece, at = read_piece(template, at)
        pieces.append(piece)
    if pieces == [] or pieces[-1] == ("into",):
        raise NoTemplate(len(template))
    return pieces
