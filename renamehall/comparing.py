"""Two rules held against each other [26].

What rules tell doesn't hang on which of the signs of one sort that they don't name stand in a name, but on which of
these are the same. So of the names that differ in such signs alone only one is asked: the one in which they come in
the order of their sort.
"""

from renamehall.errors import NoSame, TooMuch
from renamehall.names import NAME_SIGNS
from renamehall.patterns import parts_of
from renamehall.rules import ask_rule
from renamehall.telling import tells
from renamehall.templates import pieces_of

SORTS = ("0123456789", "abcdefghijklmnopqrstuvwxyz", "-_.")
MOST_NAMES_ASKED = 1000


def ask_pieces(rule):
    """Refuse a rule with a piece that reckons."""
    for piece in pieces_of(rule[2]):
        if piece[0] in ("more", "count"):
            raise NoSame(f"a template has a {piece[0]}")


def text_of(rule):
    """Tell all signs that a rule names, in a text, in which they may come often."""
    text = ""
    for part in parts_of(rule[1]) + pieces_of(rule[2]):
        if part[0] == "text":
            text += part[1]
        if part[0] == "noughts":
            text += "0"
    return text


def signs_of(one, other):
    """Tell the name signs that two rules name, each letter with its great or small other one."""
    text = (text_of(one) + text_of(other)).lower()
    return [sign for sign in NAME_SIGNS if sign.lower() in text]


def ask_bound(many, most):
    """Refuse so many signs for names of at most so many."""
    bound = 1
    for place in range(most):
        bound = bound * (many + 4)
    if bound > MOST_NAMES_ASKED:
        raise TooMuch(f"{many} signs are too many for names of {most}")


def other_signs(name, named):
    """Tell the signs, of those not named by the rules, that a name is to go on with.

    These are the ones that it has, and of each sort the first one that it hasn't; letters both great and small.
    """
    signs = []
    for sort in SORTS:
        free = [sign for sign in sort if sign not in named]
        used = [sign for sign in free if sign in name.lower()]
        fresh = [sign for sign in free if sign not in name.lower()]
        for sign in used + fresh[:1]:
            signs.append(sign)
            if sign.upper() != sign:
                signs.append(sign.upper())
    return signs


def longer_names(names, named):
    """Tell the names that are to be asked, of one sign more than these."""
    return [name + sign for name in names for sign in named + other_signs(name, named)]


def compared(one, other, most):
    """Tell ("same",), or ("parted", name) with a shortest name; NoPattern, NoTemplate, NoRule, NoSame, TooMuch."""
    ask_rule(one)
    ask_rule(other)
    ask_pieces(one)
    ask_pieces(other)
    named = signs_of(one, other)
    ask_bound(len(named), most)
    names = [""]
    for length in range(most):
        names = longer_names(names, named)
        for name in names:
            if tells(one, name, 0) != tells(other, name, 0):
                return ("parted", name)
    return ("same",)
