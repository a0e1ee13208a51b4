"""The plain reading of a name by a pattern [8]."""

from renamehall.names import FIGURES, LETTERS, all_of
from renamehall.patterns import parts_of


def gap_takes(gap_sign, text):
    """Tell whether a gap can have this text."""
    if gap_sign == "?":
        return len(text) == 1
    if gap_sign == "#":
        return all_of(text, FIGURES)
    if gap_sign == "@":
        return all_of(text, LETTERS)
    return True


def takes(part, text):
    """Tell whether a part of a pattern can have this text."""
    sort, what = part
    if sort == "text":
        return text == what
    return gap_takes(what, text)


def furthest_ends(part, name, later):
    """Tell by its begin the furthest end of a part's text behind which the parts that follow fit.

    later has as its keys where those can begin; a begin from which nothing fits is left out.
    """
    ends = {}
    for begin in range(len(name) + 1):
        for end in range(begin, len(name) + 1):
            if end in later and takes(part, name[begin:end]):
                ends[begin] = end
    return ends


def ends_of_parts(parts, name):
    """Tell the furthest ends of each part, in the parts' order."""
    # From the last part back, so that no cut is begun that would have to be given up.
    later = {len(name): len(name)}
    ends = []
    for part in reversed(parts):
        later = furthest_ends(part, name, later)
        ends.append(later)
    ends.reverse()
    return ends


def reading(pattern, name):
    """Tell the gaps' texts by the plain reading; None where the name doesn't fit."""
    parts = parts_of(pattern)
    ends = ends_of_parts(parts, name)
    if 0 not in ends[0]:
        return None
    texts = []
    begin = 0
    for part, part_ends in zip(parts, ends):
        end = part_ends[begin]
        if part[0] == "gap":
            texts.append(name[begin:end])
        begin = end
    return texts
