"""Names and paths [4]."""

FIGURES = "0123456789"
LETTERS = "abcdefghijklmnopqrstuvwxyzABCDEFGHIJKLMNOPQRSTUVWXYZ"
NAME_SIGNS = "abcdefghijklmnopqrstuvwxyzABCDEFGHIJKLMNOPQRSTUVWXYZ0123456789-_."
MOST_SIGNS = 12
MOST_NAMES = 6


def all_of(text, signs):
    """Tell whether a text has a sign, and only such signs."""
    return text != "" and all([sign in signs for sign in text])


def is_name(text):
    """Tell whether a text is a name."""
    return len(text) <= MOST_SIGNS and all_of(text, NAME_SIGNS)


def alike(one, other):
    """Tell whether two names are the same but for great and small letters."""
    return one.lower() == other.lower()


def show_path(path):
    """Write a path."""
    return "/".join(path)


def read_path(text):
    """Read a path; None where the text writes none."""
    names = text.split("/")
    if len(names) > MOST_NAMES:
        return None
    if not all([is_name(name) for name in names]):
        return None
    return tuple(names)
