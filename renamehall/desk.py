"""A desk, which keeps a hall, rules and a doer, and answers lines [28].

Each answer_ def takes the desk and the things that the line tells behind its first word, and tells the answer.
"""

from renamehall.books import Doer, begun_again, way_back
from renamehall.comparing import compared
from renamehall.errors import Busy, Full, NoDoer, NoLine, NoRules
from renamehall.figures import read_number
from renamehall.names import read_path, show_path
from renamehall.ordering import row_for
from renamehall.rings import rings
from renamehall.rules import MOST_START, ask_rule
from renamehall.sowing import wishes_of
from renamehall.texts import MOST_MARK, read_hall, show_hall

MOST_RULES = 20
MOST_STEPS = 1000
MOST_SIGNS_COMPARED = 4

# By its first word, and how many words stand behind it: what these are.
FORMS = {
    ("show", 0): (),
    ("put", 2): ("path", "mark"),
    ("make", 1): ("path",),
    ("drop", 1): ("path",),
    ("move", 2): ("path", "path"),
    ("rule", 4): ("word", "word", "word", "start"),
    ("forget", 0): (),
    ("wish", 0): (),
    ("wish", 1): ("path",),
    ("begin", 0): (),
    ("begin", 1): ("path",),
    ("do", 1): ("steps",),
    ("book", 0): (),
    ("stop", 0): (),
    ("again", 0): (),
    ("back", 0): (),
    ("same", 5): ("word", "word", "word", "word", "signs"),
}

# These are refused while a doer is at work, and else end the keeping of a book.
CHANGING = ("put", "make", "drop", "move", "begin", "again", "back")


def read_word(sort, word):
    """Read a word as a thing of that sort; None where it is none."""
    if sort == "path":
        return read_path(word)
    if sort == "mark":
        return read_number(word, 0, MOST_MARK)
    if sort == "start":
        return read_number(word, 0, MOST_START)
    if sort == "steps":
        return read_number(word, 0, MOST_STEPS)
    if sort == "signs":
        return read_number(word, 1, MOST_SIGNS_COMPARED)
    return word


def read_line(line):
    """Tell a line's first word and the things behind it; NoLine."""
    first, *words = line.split(" ")
    form = FORMS.get((first, len(words)))
    if form is None:
        raise NoLine("no such line")
    things = [read_word(sort, word) for sort, word in zip(form, words)]
    if None in things:
        raise NoLine("a word is not what stands there")
    return first, things


def ask_state(desk, first):
    """Refuse a line with that first word where the desk is not ready for it; Busy, NoDoer, NoRules, Full."""
    if first in CHANGING and desk.doer is not None:
        raise Busy("a doer has small steps left")
    if first in ("do", "book", "stop") and desk.doer is None:
        raise NoDoer("there is no doer")
    if first in ("again", "back") and desk.kept is None:
        raise NoDoer("no book is kept")
    if first in ("wish", "begin") and desk.rules == []:
        raise NoRules("there are no rules")
    if first == "rule" and len(desk.rules) >= MOST_RULES:
        raise Full(f"{MOST_RULES} rules are there")


def let_doer_go(desk):
    """Take the hall and the book over from the doer."""
    desk.held = desk.doer.hall()
    desk.kept = desk.doer.book()
    desk.doer = None


def hall_now(desk):
    """Tell the hall, the doer's where there is one."""
    if desk.doer is None:
        return desk.held
    return desk.doer.hall()


def told_wishes(desk, things):
    """Tell the rules' wishes from a drawer on, which is the hall itself where none is told."""
    drawer = things[0] if things != [] else ()
    return wishes_of(hall_now(desk), drawer, desk.rules)


def told_left(desk):
    """Tell how many small steps are left, as an answer."""
    return f"left {desk.doer.left()}"


def answer_show(desk, things):
    return show_hall(hall_now(desk)).replace("\n", ", ")


def answer_put(desk, things):
    desk.held.put(things[0], things[1])
    return "ok"


def answer_make(desk, things):
    desk.held.put(things[0], None)
    return "ok"


def answer_drop(desk, things):
    desk.held.drop(things[0])
    return "ok"


def answer_move(desk, things):
    desk.held.move(things[0], things[1])
    return "ok"


def answer_rule(desk, things):
    rule = tuple(things)
    ask_rule(rule)
    desk.rules.append(rule)
    return "ok"


def answer_forget(desk, things):
    desk.rules = []
    return "ok"


def answer_wish(desk, things):
    wishes = told_wishes(desk, things)
    if wishes == []:
        return "none"
    return ", ".join([f"{show_path(path)} {show_path(place)}" for path, place in wishes])


def answer_begin(desk, things):
    wishes = told_wishes(desk, things)
    row = row_for(desk.held, wishes)
    desk.doer = Doer(desk.held, row)
    return f"moves {len(row)} rings {len(rings(desk.held, wishes))}"


def answer_do(desk, things):
    desk.doer.do(things[0])
    return told_left(desk)


def answer_book(desk, things):
    return desk.doer.book().replace("\n", ";")


def answer_stop(desk, things):
    let_doer_go(desk)
    return "ok"


def answer_again(desk, things):
    desk.doer = begun_again(desk.held, desk.kept)
    return told_left(desk)


def answer_back(desk, things):
    desk.doer = way_back(desk.held, desk.kept)
    return told_left(desk)


def answer_same(desk, things):
    one = ("slip", things[0], things[1], 0)
    other = ("slip", things[2], things[3], 0)
    return " ".join(compared(one, other, things[4]))


ANSWERS = {
    "show": answer_show,
    "put": answer_put,
    "make": answer_make,
    "drop": answer_drop,
    "move": answer_move,
    "rule": answer_rule,
    "forget": answer_forget,
    "wish": answer_wish,
    "begin": answer_begin,
    "do": answer_do,
    "book": answer_book,
    "stop": answer_stop,
    "again": answer_again,
    "back": answer_back,
    "same": answer_same,
}


class Desk:
    """A hall, rules, a doer, if there is one, and the book that the last one left, if it is kept."""

    def __init__(self, text):
        self.held = read_hall(text)
        self.rules = []
        self.doer = None
        self.kept = None

    def say(self, line):
        """Answer a line."""
        first, things = read_line(line)
        # Its book can still be asked for as long as nothing else is told.
        if first != "book" and self.doer is not None and self.doer.left() == 0:
            let_doer_go(self)
        ask_state(self, first)
        answer = ANSWERS[first]
        told = answer(self, things)
        if first in CHANGING:
            self.kept = None
        return told
