"""Whole numbers written by figures, as marks, starts and the like are in lines [27] [28]."""

from renamehall.names import FIGURES, all_of


def read_number(text, least, most):
    """Read a whole number within these bounds, with no nought ahead but in 0 itself; None where the text is none."""
    # Python reads no number of some thousand figures; one that is longer than the bound is beyond it anyhow.
    if not all_of(text, FIGURES) or len(text) > len(str(most)):
        return None
    number = int(text)
    if str(number) != text or number < least or number > most:
        return None
    return number
