"""The wishes that rules tell for a hall [18]."""

from renamehall.errors import NoDrawer, NoPlace
from renamehall.names import MOST_NAMES, is_name
from renamehall.rules import ask_rule
from renamehall.telling import tells


def rows_beneath(hall, drawer):
    """Tell the rows of all that lies beneath a drawer, in the order of the hall's rows."""
    rows = []
    for path, mark in hall.rows():
        if path != drawer and path[:len(drawer)] == drawer:
            rows.append((path, mark))
    return rows


def is_for(rule, mark):
    """Tell whether a rule's kind is that of a thing with such a mark."""
    if rule[0] == "all":
        return True
    return rule[0] == ("drawer" if mark is None else "slip")


def told_texts(path, mark, rules, counted):
    """Tell the texts of the first rule that counts for a thing, or None.

    counted has by drawer and rule for how many things the rule counted, and is carried on.
    """
    for number, rule in enumerate(rules):
        key = (path[:-1], number)
        if is_for(rule, mark):
            texts = tells(rule, path[-1], rule[3] + counted.get(key, 0))
            if texts is not None:
                counted[key] = counted.get(key, 0) + 1
                return texts
    return None


def place_of(hall, path, texts):
    """Tell the place that the texts told for a thing are; NoPlace."""
    if len(texts) > MOST_NAMES or not all([is_name(text) for text in texts]):
        raise NoPlace(path, texts)
    if len(texts) == 1:
        return path[:-1] + texts
    if not hall.is_drawer(texts[:-1]):
        raise NoPlace(path, texts)
    return texts


def wishes_of(hall, path, rules):
    """Tell the wishes of the rules for all that lies beneath a drawer, in the order of the hall's rows."""
    for rule in rules:
        ask_rule(rule)
    if not hall.is_drawer(path):
        raise NoDrawer(path)
    wishes = []
    counted = {}
    for thing, mark in rows_beneath(hall, path):
        texts = told_texts(thing, mark, rules, counted)
        if texts is not None:
            wishes.append((thing, place_of(hall, thing, texts)))
    return wishes
