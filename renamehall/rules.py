"""Rules, and how they are asked [7]."""

from renamehall.errors import NoRule
from renamehall.patterns import parts_of
from renamehall.templates import pieces_of

KINDS = ("slip", "drawer", "all")
OF_A_GAP = ("gap", "great", "small", "noughts", "more")
MOST_START = 10 ** 9


def ask_gap(piece, gap_signs):
    """Refuse a piece that speaks of a gap which the pattern hasn't, or can't add to."""
    sort = piece[0]
    gap = piece[1]
    if gap > len(gap_signs):
        raise NoRule(f"there is no gap {gap}")
    if sort == "more" and gap_signs[gap - 1] != "#":
        raise NoRule(f"gap {gap} is no number")


def ask_piece(piece, kind, gap_signs):
    """Refuse a piece that can't be in a rule of this kind, with a pattern of these gaps."""
    sort = piece[0]
    if sort in OF_A_GAP:
        ask_gap(piece, gap_signs)
    if sort == "into" and kind != "slip":
        raise NoRule("only slips go into other drawers")


def ask_rule(rule):
    """Tell True of a rule; refused where it is none."""
    kind, pattern, template, start = rule
    parts = parts_of(pattern)
    pieces = pieces_of(template)
    if kind not in KINDS:
        raise NoRule("no such kind")
    gap_signs = [what for sort, what in parts if sort == "gap"]
    for piece in pieces:
        ask_piece(piece, kind, gap_signs)
    if start < 0 or start > MOST_START:
        raise NoRule("the start is beyond its bounds")
    return True
