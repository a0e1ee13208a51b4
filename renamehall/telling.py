"""What a rule tells for a name [9]."""

from renamehall.readings import reading
from renamehall.rules import ask_rule
from renamehall.templates import pieces_of


def with_noughts(text, width):
    """Tell a text with noughts ahead till it has so many signs."""
    # zfill would put them behind a sign like "-" that the text begins with.
    return text.rjust(width, "0")


def gap_text(piece, text):
    """Tell the text of a piece that speaks of a gap, whose own text is handed in."""
    sort = piece[0]
    if sort == "great":
        return text.upper()
    if sort == "small":
        return text.lower()
    if sort == "noughts":
        return with_noughts(text, piece[2])
    if sort == "more":
        return with_noughts(str(int(text) + piece[2]), len(text))
    return text


def piece_text(piece, gap_texts, count):
    """Tell the text of a piece that is no into."""
    sort = piece[0]
    if sort == "text":
        return piece[1]
    if sort == "count":
        return with_noughts(str(count), piece[1])
    return gap_text(piece, gap_texts[piece[1] - 1])


def tells(rule, name, count):
    """Tell the texts that a rule makes of a name; None where the name doesn't fit."""
    ask_rule(rule)
    gap_texts = reading(rule[1], name)
    if gap_texts is None:
        return None
    texts = [""]
    for piece in pieces_of(rule[2]):
        if piece == ("into",):
            texts.append("")
        else:
            texts[-1] += piece_text(piece, gap_texts, count)
    return tuple(texts)
