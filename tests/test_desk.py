"""Point 28: the desk, its lines, answers and refusals; point 2 where it speaks of refused deeds."""

import random
import unittest

from models import SOME
from renamehall.desk import Desk
from renamehall.errors import (
    Busy, Fixed, Full, HallError, Meets, NoBook, NoDoer, NoDrawer, NoHall, NoLine, NoPattern, NoPlace, NoRule, NoRules,
    NoSame, NotEmpty, NoTemplate, NoText, NoThing, Taken, TooMuch,
)
from renamehall.halls import Hall
from renamehall.texts import show_hall

TEXT = show_hall(Hall(SOME))
SHOWN = "drawer box, drawer desk, slip desk/a 1, slip desk/b 2, drawer desk/tax, slip desk/tax/y24 24, slip note 7"
# Two slips that exchange their names, told by two rules.
RING = "slip a 1\nslip b 2"
RING_RULES = ("rule slip a b 0", "rule slip b a 0")


class Desks(unittest.TestCase):
    def desk(self, text, *lines):
        """A desk that was told these lines, none of them refused."""
        desk = Desk(text)
        for line in lines:
            desk.say(line)
        return desk

    def says(self, desk, *pairs):
        """Each line with its answer, or with the class that it is refused with."""
        for line, answer in pairs:
            with self.subTest(line):
                if isinstance(answer, str):
                    told = desk.say(line)
                    self.assertEqual(told, answer)
                    self.assertIs(type(told), str)
                else:
                    self.refused(desk, line, answer)

    def refused(self, desk, line, error, **fields):
        with self.subTest(line):
            with self.assertRaises(error) as caught:
                desk.say(line)
            self.assertIs(type(caught.exception), error)
            self.assertEqual(error.__bases__, (HallError,))
            for field, value in fields.items():
                self.assertEqual(getattr(caught.exception, field), value)

    def state(self, desk):
        """What can be seen of a desk without changing it: its hall, and its doer's book and steps left."""
        told = []
        for line in ("book", "do 0"):
            try:
                told.append(desk.say(line))
            except NoDoer:
                told.append(None)
        return [desk.say("show"), *told]

    def changes_nothing(self, desk, *pairs):
        before = self.state(desk)
        for pair in pairs:
            self.says(desk, pair)
            self.assertEqual(self.state(desk), before)


class Halls(Desks):
    def test_show(self):
        self.says(Desk(TEXT), ("show", SHOWN))
        self.says(Desk("blind\n" + TEXT), ("show", "blind, " + SHOWN))
        self.says(Desk(""), ("show", ""))
        self.says(Desk("blind"), ("show", "blind"))
        self.says(Desk("slip b 1\ndrawer a"), ("show", "drawer a, slip b 1"))

    def test_refused_as_texts_are(self):
        for text, error, field, value in (
            ("x", NoText, "line", 0), ("slip a 1\n", NoText, "line", 1), ("slip a/b 1", NoHall, "at", 0),
            ("blind\nslip a 1\nslip A 1", NoHall, "at", 1), ("drawer a\nblind", NoText, "line", 1),
        ):
            with self.subTest(text), self.assertRaises(error) as caught:
                Desk(text)
            self.assertEqual(getattr(caught.exception, field), value)

    def test_put_make_drop_move(self):
        desk = Desk("")
        self.says(
            desk,
            ("put a 1", "ok"), ("make d", "ok"), ("put d/b 0", "ok"), ("put d/c 1000000000", "ok"), ("make d/e", "ok"),
            ("show", "slip a 1, drawer d, slip d/b 0, slip d/c 1000000000, drawer d/e"),
            ("move d e", "ok"), ("move a e/e/a", "ok"), ("drop e/b", "ok"),
            ("show", "drawer e, slip e/c 1000000000, drawer e/e, slip e/e/a 1"),
            ("drop e/e/a", "ok"), ("drop e/e", "ok"), ("drop e/c", "ok"), ("drop e", "ok"), ("show", ""),
        )

    def test_deeds_refused(self):
        desk = Desk(TEXT)
        before = desk.say("show")
        self.refused(desk, "put x/y 1", NoDrawer, path=("x",))
        self.refused(desk, "put note 1", Taken, path=("note",))
        self.refused(desk, "make note/x", NoDrawer, path=("note",))
        self.refused(desk, "make desk", Taken, path=("desk",))
        self.refused(desk, "drop x", NoThing, path=("x",))
        self.refused(desk, "drop desk", NotEmpty, path=("desk",))
        self.refused(desk, "move x y", NoThing, path=("x",))
        self.refused(desk, "move note x/y", NoDrawer, path=("x",))
        self.refused(desk, "move desk/tax tax", Fixed, path=("desk", "tax"))
        self.refused(desk, "move note box", Taken, path=("box",))
        self.refused(desk, "move note note", Taken, path=("note",))
        self.assertEqual(desk.say("show"), before)

    def test_alike_names(self):
        desk = Desk("blind\nslip a 1\nslip b 2")
        self.refused(desk, "put A 1", Taken, path=("a",))
        self.says(desk, ("move a A", "ok"), ("show", "blind, slip A 1, slip b 2"))

    def test_sixty_things(self):
        desk = Desk("\n".join(f"slip t{k} {k}" for k in range(59)))
        self.says(desk, ("put x 1", "ok"), ("put y 1", Full), ("make y", Full), ("drop x", "ok"), ("make y", "ok"))


class Rules(Desks):
    def test_wish(self):
        desk = self.desk(TEXT, "rule slip @ {1}{1} 0")
        self.says(desk, ("wish", "desk/a desk/aa, desk/b desk/bb, note notenote"))
        self.says(desk, ("wish desk", "desk/a desk/aa, desk/b desk/bb"))
        self.says(desk, ("wish box", "none"), ("wish desk/tax", "none"))
        self.says(desk, ("show", SHOWN))

    def test_none(self):
        self.says(self.desk(TEXT, "rule slip x y 0"), ("wish", "none"), ("wish desk", "none"))
        self.says(self.desk("", "rule all * {1} 0"), ("wish", "none"))

    def test_a_wish_to_stay_is_told(self):
        self.says(self.desk(TEXT, "rule all * {1} 0"), ("wish desk", ", ".join(
            f"{path} {path}" for path in ("desk/a", "desk/b", "desk/tax", "desk/tax/y24")
        )))

    def test_the_first_rule_that_fits_counts(self):
        desk = self.desk(TEXT, "rule slip a first 0", "rule slip * then-{n} 5", "rule drawer tax t 0")
        wanted = "desk/a desk/first, desk/b desk/then-5, desk/tax desk/t, desk/tax/y24 desk/tax/then-5"
        self.says(desk, ("wish desk", wanted))

    def test_several_texts(self):
        desk = self.desk(TEXT, "rule slip @ desk/tax/{1u} 0")
        self.says(desk, ("wish", "desk/a desk/tax/A, desk/b desk/tax/B, note desk/tax/NOTE"))

    def test_forget(self):
        desk = self.desk(TEXT, *["rule slip * x{1} 0"] * 20)
        self.says(
            desk,
            ("forget", "ok"), ("wish", NoRules), ("forget", "ok"), ("rule slip note memo 0", "ok"),
            ("wish", "note memo"), ("forget", "ok"), ("wish", NoRules),
        )

    def test_twenty_rules_and_one_more(self):
        desk = Desk(TEXT)
        for number in range(19):
            self.says(desk, (f"rule slip x{number} y 0", "ok"))
        self.says(
            desk,
            ("rule slip note memo 0", "ok"), ("rule slip a b 0", Full), ("rule x y z 0", Full), ("wish", "note memo"),
            ("rule slip a b 1000000001", NoLine), ("rule slip a {9} 0", Full),
            ("forget", "ok"), ("rule slip a b 0", "ok"), ("wish", "desk/a desk/b"),
        )

    def test_no_rules(self):
        desk = Desk(TEXT)
        for line in ("wish", "wish desk", "wish x", "begin", "begin desk", "begin x"):
            self.says(desk, (line, NoRules))

    def test_rules_refused(self):
        desk = self.desk(TEXT, "rule slip note memo 0")
        self.refused(desk, "rule slip a:b x 0", NoPattern, at=1)
        self.refused(desk, "rule x a:b {1 0", NoPattern, at=1)
        self.refused(desk, "rule slip a {1 0", NoTemplate, at=2)
        self.refused(desk, "rule x a {1 0", NoTemplate, at=2)
        for line in ("rule x a b 0", "rule slip a {1} 0", "rule slip * {1+1} 0", "rule drawer * {1}/x 0",
                     "rule all * {1}/x 0", "rule Slip a b 0"):
            self.refused(desk, line, NoRule)
        self.says(desk, ("wish", "note memo"))

    def test_words_without_signs_are_words(self):
        desk = Desk(TEXT)
        self.refused(desk, "rule slip  x 0", NoPattern, at=0)
        self.refused(desk, "rule slip a  0", NoTemplate, at=0)
        self.refused(desk, "rule  a b 0", NoRule)
        self.refused(desk, "rule    0", NoPattern, at=0)
        self.says(desk, ("rule slip a b ", NoLine), ("rule slip a b  0", NoLine), ("wish", NoRules))

    def test_wishes_refused(self):
        desk = self.desk(TEXT, "rule slip a x{n9}yz-and-so-on 0")
        self.refused(desk, "wish x", NoDrawer, path=("x",))
        self.refused(desk, "wish note", NoDrawer, path=("note",))
        self.refused(desk, "begin note", NoDrawer, path=("note",))
        told = {"path": ("desk", "a"), "texts": ("x000000000yz-and-so-on",)}
        self.refused(desk, "wish", NoPlace, **told)
        self.refused(desk, "begin", NoPlace, **told)
        self.says(desk, ("wish box", "none"), ("wish desk/tax", "none"))

    def test_begin_refused_where_two_meet(self):
        desk = self.desk(TEXT, "rule slip a b 0")
        self.says(desk, ("wish", "desk/a desk/b"))
        self.refused(desk, "begin", Meets, one=("desk", "a"), other=("desk", "b"), place=("desk", "b"))
        self.says(desk, ("do 1", NoDoer), ("show", SHOWN), ("put x 1", "ok"))

    def test_starts(self):
        for start in ("0", "7", "10", "1000000000"):
            desk = self.desk("slip a 1", f"rule slip a b{{n}} {start}")
            self.says(desk, ("wish", "a b" + start))


class Doing(Desks):
    def test_a_ring(self):
        desk = self.desk(RING, *RING_RULES)
        self.says(desk, ("begin", "moves 3 rings 1"), ("do 0", "left 10"), ("book", ""), ("show", "slip a 1, slip b 2"))
        self.says(desk, ("do 4", "left 6"), ("show", "slip a 1, slip b 2"))
        self.assertTrue(desk.say("book").endswith(";begin;"))
        self.says(desk, ("do 1000", "left 0"))
        self.assertTrue(desk.say("book").endswith(";begin;done 0;done 1;done 2;"))
        self.says(desk, ("show", "slip a 2, slip b 1"))

    def test_each_small_step(self):
        desk = self.desk(TEXT, "rule slip note memo 0", "rule drawer desk table 0")
        self.assertEqual(desk.say("begin"), "moves 2 rings 0")
        first = "desk table"
        moves = "move desk table;move note memo;"
        in_table = "drawer table, slip table/a 1, slip table/b 2, drawer table/tax, slip table/tax/y24 24"
        table = "drawer box, slip note 7, " + in_table
        both = "drawer box, slip memo 7, " + in_table
        steps = [
            ("", SHOWN), (f"move {first};", SHOWN), (moves, SHOWN), (moves + "begin;", SHOWN),
            (moves + "begin;", table), (moves + "begin;done 0;", table),
            (moves + "begin;done 0;", both), (moves + "begin;done 0;done 1;", both),
        ]
        for number, (book, shown) in enumerate(steps):
            self.says(desk, ("book", book))
            if number < 7:
                self.says(desk, ("show", shown), ("do 0", f"left {7 - number}"), ("do 1", f"left {6 - number}"))
            else:
                self.says(desk, ("show", shown), ("do 0", NoDoer))

    def test_begin_from_a_drawer(self):
        desk = self.desk(TEXT, "rule slip @ {1}x 0")
        self.says(desk, ("begin desk", "moves 2 rings 0"), ("do 1000", "left 0"))
        self.says(desk, ("show", SHOWN.replace("desk/a", "desk/ax").replace("desk/b", "desk/bx")))

    def test_begin_with_nothing_to_move(self):
        desk = self.desk(TEXT, "rule slip x y 0")
        self.says(desk, ("begin", "moves 0 rings 0"), ("put x 1", Busy), ("do 1", "left 0"), ("book", "begin;"))
        self.says(desk, ("put x 1", "ok"), ("again", NoDoer))

    def test_rings_of_several(self):
        text = "slip a 1\nslip b 2\nslip c 3\nslip x 4\nslip y 5\ndrawer d"
        lines = [f"rule slip {one} {other} 0" for one, other in ("ab", "bc", "ca", "xy", "yx")]
        desk = self.desk(text, *lines, "rule drawer d e 0")
        self.says(desk, ("begin", "moves 8 rings 2"), ("do 1000", "left 0"))
        self.says(desk, ("show", "slip a 3, slip b 1, slip c 2, drawer e, slip x 5, slip y 4"))

    def test_more_steps_than_are_left(self):
        desk = self.desk(RING, *RING_RULES, "begin")
        self.says(desk, ("do 7", "left 3"), ("do 7", "left 0"), ("do 1", NoDoer))

    def test_no_doer(self):
        desk = Desk(TEXT)
        for line in ("do 0", "do 1", "book", "stop", "again", "back"):
            self.says(desk, (line, NoDoer))
        self.says(desk, ("show", SHOWN))

    def test_busy(self):
        desk = self.desk(RING, *RING_RULES, "begin")
        busy = [(line, Busy) for line in (
            "put x 1", "make x", "drop a", "move a x", "begin", "begin x", "again", "back", "put x/y 1", "drop x",
        )]
        for left in range(10, 0, -1):
            self.changes_nothing(desk, *busy)
            self.says(desk, ("do 1", f"left {left - 1}"))
        self.says(desk, ("put x 1", "ok"), ("show", "slip a 2, slip b 1, slip x 1"))

    def test_busy_ahead_of_all_but_no_line(self):
        desk = self.desk(RING, *RING_RULES, "begin", "forget")
        self.says(desk, ("begin", Busy), ("begin x", Busy), ("begin x ", NoLine), ("put x", NoLine), ("again", Busy))
        self.says(desk, ("wish", NoRules))

    def test_what_is_not_busy(self):
        desk = self.desk(RING, *RING_RULES, "begin")
        self.says(
            desk,
            ("show", "slip a 1, slip b 2"), ("wish", "a b, b a"), ("rule slip x y 0", "ok"),
            ("same * {1} * {1} 2", "same"), ("forget", "ok"), ("wish", NoRules), ("rule slip a c 0", "ok"),
            ("wish", "a c"), ("do 0", "left 10"),
        )

    def test_wish_asks_the_doers_hall(self):
        desk = self.desk("slip a 1\nslip b 2", "rule slip a c 0", "begin", "forget", "rule slip * {1}{1} 0")
        self.says(desk, ("wish", "a aa, b bb"), ("do 2", "left 2"), ("wish", "a aa, b bb"), ("do 1", "left 1"))
        self.says(desk, ("wish", "b bb, c cc"), ("do 1", "left 0"), ("wish", "b bb, c cc"))
        desk = self.desk("drawer a", "rule drawer a b 0", "begin", "do 3")
        self.says(desk, ("wish a", NoDrawer), ("wish b", "none"), ("stop", "ok"), ("wish b", "none"))


class Going(Desks):
    """The doer that has no steps left goes by itself."""

    def done(self):
        return self.desk(RING, *RING_RULES, "begin", "do 10")

    def test_at_the_next_line_but_book(self):
        book = self.done().say("book")
        for line, answer in (
            ("show", "slip a 2, slip b 1"), ("do 0", NoDoer), ("do 1000", NoDoer), ("stop", NoDoer), ("forget", "ok"),
            ("wish", "a b, b a"), ("rule slip x y 0", "ok"), ("same * {1} * {1} 1", "same"), ("wish x", NoDrawer),
            ("rule x y z 0", NoRule), ("drop x", NoThing), ("begin x", NoDrawer),
        ):
            desk = self.done()
            self.says(desk, ("book", book), ("book", book), (line, answer), ("book", NoDoer), ("again", "left 0"))
            self.says(desk, ("book", book))

    def test_not_at_a_line_that_is_none(self):
        desk = self.done()
        book = desk.say("book")
        self.says(desk, ("x", NoLine), ("do 1001", NoLine), ("", NoLine), ("show ", NoLine), ("book", book))

    def test_ahead_of_what_the_line_does(self):
        desk = self.done()
        self.says(desk, ("put c 3", "ok"), ("show", "slip a 2, slip b 1, slip c 3"), ("again", NoDoer))
        desk = self.done()
        self.says(desk, ("begin", "moves 3 rings 1"), ("do 1000", "left 0"), ("show", "slip a 1, slip b 2"))
        desk = self.done()
        self.says(desk, ("move a c", "ok"), ("show", "slip b 1, slip c 2"))
        desk = self.done()
        self.says(desk, ("back", "left 10"), ("do 10", "left 0"), ("show", "slip a 1, slip b 2"))

    def test_begun_again_with_none_left(self):
        desk = self.done()
        book = desk.say("book")
        for _ in range(3):
            self.says(desk, ("again", "left 0"), ("book", book))
        self.says(desk, ("drop a", "ok"), ("again", NoDoer))


class Stopping(Desks):
    def stopped(self, steps):
        desk = self.desk(RING, *RING_RULES, "begin", f"do {steps}")
        self.says(desk, ("stop", "ok"))
        return desk

    def test_stop(self):
        desk = self.desk(RING, *RING_RULES, "begin", "do 5")
        shown = desk.say("show")
        self.assertNotEqual(shown, "slip a 1, slip b 2")
        self.says(desk, ("stop", "ok"), ("show", shown), ("stop", NoDoer), ("do 1", NoDoer), ("book", NoDoer))

    def test_again_behind_a_stop_at_each_step(self):
        whole = self.desk(RING, *RING_RULES, "begin", "do 10").say("book")
        for steps in range(10):
            desk = self.stopped(steps)
            if steps < 4:
                self.says(desk, ("again", NoBook), ("back", NoBook), ("show", "slip a 1, slip b 2"))
                self.says(desk, ("begin", "moves 3 rings 1"))
            else:
                self.says(desk, ("again", f"left {10 - steps}"), ("do 1000", "left 0"), ("book", whole))
                self.says(desk, ("show", "slip a 2, slip b 1"))

    def test_back_behind_a_stop_at_each_step(self):
        for steps in range(4, 10):
            desk = self.stopped(steps)
            moved = (steps - 3) // 2
            self.says(desk, ("back", f"left {3 * moved + 1}"), ("book", ""), ("do 1000", "left 0"))
            self.assertEqual(desk.say("book").count("done"), moved)
            self.says(desk, ("show", "slip a 1, slip b 2"))

    def test_stopped_often(self):
        desk = self.stopped(4)
        for left in range(6, 0, -1):
            self.says(desk, ("again", f"left {left}"), ("stop", "ok"), ("again", f"left {left}"))
            self.says(desk, ("do 1", f"left {left - 1}"))
            if left > 1:
                self.says(desk, ("stop", "ok"))
        self.says(desk, ("show", "slip a 2, slip b 1"))

    def test_a_way_back_that_is_stopped_itself(self):
        for steps in range(4, 10):
            moved = (steps - 3) // 2
            for many in range(moved + 1, 3 * moved + 1):
                desk = self.stopped(steps)
                shown = desk.say("show")
                self.says(desk, ("back", f"left {3 * moved + 1}"), (f"do {many}", f"left {3 * moved + 1 - many}"))
                self.says(desk, ("stop", "ok"), ("again", f"left {3 * moved + 1 - many}"), ("stop", "ok"))
                desk.say("back")
                self.says(desk, ("do 1000", "left 0"), ("show", shown))

    def test_the_book_is_kept_till_a_deed_that_is_not_refused(self):
        for line in ("put x 1", "make x", "move a x", "drop a"):
            desk = self.desk("slip a 1\nslip b 2", "rule slip b c 0", "begin", "do 2", "stop", line)
            self.says(desk, ("again", NoDoer), ("back", NoDoer), ("book", NoDoer))

    def test_a_doer_has_a_book_of_its_own(self):
        for line, book in (("begin", ""), ("again", "move b c;begin;"), ("back", "")):
            desk = self.desk("slip a 1\nslip b 2", "rule slip b c 0", "begin", "do 2", "stop", line)
            self.says(desk, ("book", book), ("stop", "ok"), ("again", NoBook if book == "" else "left 2"))

    def test_the_book_is_kept_where_deeds_are_refused(self):
        desk = self.stopped(5)
        for line, error in (
            ("put a/x 1", NoDrawer), ("put b 1", Taken), ("make b", Taken), ("drop x", NoThing), ("move x y", NoThing),
            ("begin x", NoDrawer), ("stop", NoDoer), ("do 1", NoDoer), ("book", NoDoer), ("x", NoLine),
        ):
            self.says(desk, (line, error))
        self.says(desk, ("again", "left 5"))

    def test_the_book_is_kept_by_other_lines(self):
        desk = self.stopped(5)
        self.says(desk, ("show", desk.say("show")), ("wish b", NoDrawer), ("rule slip q r 0", "ok"), ("forget", "ok"))
        self.says(desk, ("same * {1} * {1} 1", "same"), ("wish", NoRules), ("begin", NoRules), ("again", "left 5"))

    def test_begin_that_is_refused_keeps_the_book(self):
        desk = self.desk("slip a 1\nslip b 2", "rule slip a c 0", "begin", "do 2", "stop", "forget", "rule slip a b 0")
        self.says(desk, ("begin", Meets), ("again", "left 2"))

    def test_again_and_back_refused(self):
        desk = self.desk("drawer d\nslip d/a 1", "rule slip a b 0", "rule drawer d e 0", "begin", "do 3", "stop")
        self.says(desk, ("show", "drawer d, slip d/a 1"), ("again", "left 4"), ("stop", "ok"))
        self.says(desk, ("drop d/a", "ok"), ("again", NoDoer))

    def test_a_refused_again_keeps_the_book(self):
        desk = self.stopped(3)
        self.says(desk, ("again", NoBook), ("back", NoBook), ("again", NoBook), ("put c 1", "ok"), ("again", NoDoer))

    def test_again_while_busy(self):
        desk = self.stopped(6)
        self.says(desk, ("again", "left 4"), ("again", Busy), ("back", Busy), ("stop", "ok"), ("again", "left 4"))

    def test_back_of_what_was_done(self):
        desk = self.desk(TEXT, "rule slip @ desk/tax/{1} 0", "rule drawer * {1u} 0", "begin", "do 1000")
        self.assertNotEqual(desk.say("show"), SHOWN)
        self.says(desk, ("back", "left 19"), ("do 1000", "left 0"), ("show", SHOWN), ("back", "left 19"))


class Same(Desks):
    def test_same(self):
        desk = Desk("")
        self.says(desk, ("same * {1} ** {1}{2} 4", "same"), ("same ## {1}{2} ## {2}{1} 1", "same"))
        self.says(desk, ("same ?? - ??? - 1", "same"))

    def test_parted(self):
        desk = Desk("")
        word, name = desk.say("same ## {1}{2} ## {2}{1} 4").split(" ")
        self.assertEqual((word, len(name), len(set(name))), ("parted", 2, 2))
        self.assertTrue(name.isdigit())
        word, name = desk.say("same a x A x 1").split(" ")
        self.assertIn((word, name), (("parted", "a"), ("parted", "A")))
        self.says(desk, ("same -- - _- - 2", desk.say("same -- - _- - 2")))

    def test_refused(self):
        desk = Desk("")
        self.refused(desk, "same a:b x * {1} 2", NoPattern, at=1)
        self.refused(desk, "same * {1} ab:c x 2", NoPattern, at=2)
        self.refused(desk, "same * {1 ab:c x 2", NoTemplate, at=2)
        self.refused(desk, "same  {1} * {1} 2", NoPattern, at=0)
        for line, error in (
            ("same * {2} * {1} 2", NoRule), ("same * {1} * {2} 2", NoRule), ("same * {n} * {1} 2", NoSame),
            ("same # {1} # {1+1} 2", NoSame), ("same a a * {1} 4", TooMuch), ("same a {n} * {1} 4", NoSame),
            ("same * {1} * {1} 0", NoLine), ("same * {1} * {1} 5", NoLine), ("same * {1} * {1} 02", NoLine),
            ("same * {1} * {1}", NoLine), ("same * {1} * {1} ", NoLine), ("same * {1} * {1} 2 2", NoLine),
        ):
            self.says(desk, (line, error))

    def test_templates_of_slips(self):
        self.says(Desk(""), ("same * a/{1} ** a/{1}{2} 2", "same"))


class NoLines(Desks):
    LINES = (
        "", " ", "  ", "x", "Show", "shows", "show ", " show", "show x", "show  ", "put", "put a", "put a ", "put a 1 ",
        "put a 1 2", "put  a 1", "put a  1", " put a 1", "put a/ 1", "put /a 1", "put a//b 1", "put abcdefghijklm 1",
        "put a/b/c/d/e/f/g 1", "put a 01", "put a -1", "put a +1", "put a x", "put a 1000000001", "put a 00",
        "put 1 a:b", "make", "make ", "make a b", "make a ", "make a 1", "make /", "make a:b",
        "drop", "drop ", "drop a b", "drop a/",
        "move", "move a", "move a ", "move a  b", "move a b ", "move a b c", "move a/ b", "move a b/", "move * b",
        "rule", "rule slip", "rule slip a", "rule slip a b", "rule slip a b ", "rule slip a b x", "rule slip a b 00",
        "rule slip a b 1000000001", "rule slip a b -1", "rule slip a b 0 0", "rule slip a b 0 ", " rule slip a b 0",
        "rule slip  a b 0", "forget ", "forget a", "forget it",
        "wish ", "wish  ", "wish a b", "wish /", "wish a/", "wish a ", "wish a/b/c/d/e/f/g",
        "begin ", "begin a b", "begin /", "begin a ", "do", "do ", "do x", "do 01", "do 1001",
        "do -1", "do 1 ", "do  1", "do 1 1", "do 00", "do 10000", "book ", "book a", "stop ", "stop a", "again ",
        "again a", "back ", "back a", "same", "same a", "same * {1} * {1}", "same * {1} * {1} 0", "same * {1} * {1} 5",
        "same * {1} * {1} 1 1", "same * {1} * 2", "same * {1} * {1} x", "put a " + "9" * 5000, "do " + "9" * 5000,
        "do " + "0" * 5000, "same * {1} * {1} " + "1" * 5000, "rule slip a b " + "1" * 5000, "show\n", "SHOW", "a 1",
    )

    def test_ahead_of_all_else(self):
        text = "slip a 1\nslip b 2"
        states = (
            [], ["rule slip a c 0"], ["rule slip a c 0", "begin"], ["rule slip a c 0", "begin", "do 3"],
            ["rule slip a c 0", "begin", "do 4"], ["rule slip a c 0", "begin", "do 3", "stop"],
            ["rule slip a c 0"] * 20,
        )
        for lines in states:
            desk = self.desk(text, *lines)
            for line in self.LINES:
                self.says(desk, (line, NoLine))
            if lines[-1:] == ["do 4"]:
                self.says(desk, ("book", "move a c;begin;done 0;"))
            if lines[-1:] == ["stop"]:
                self.says(desk, ("again", "left 1"))

    def test_they_change_nothing(self):
        desk = self.desk("slip a 1\nslip b 2", "rule slip a c 0", "begin", "do 2")
        self.changes_nothing(desk, *[(line, NoLine) for line in self.LINES])

    def test_bounds_that_are_held(self):
        desk = self.desk("slip a 1", "rule slip a b 1000000000", "put c 1000000000", "put d 0", "begin")
        self.says(desk, ("do 0", "left 4"), ("do 1000", "left 0"), ("same * {1} * {1} 4", "same"))
        self.says(desk, ("same * {1} * {1} 1", "same"), ("show", "slip b 1, slip c 1000000000, slip d 0"))
        for many in range(1, 7):
            self.says(desk, ("make e" + "/x" * (many - 1), "ok"))
        self.says(desk, ("wish e/x/x/x/x/x", "none"), ("make " + "a" * 12, "ok"), ("drop e/x/x/x/x/x", "ok"))


class Orders(Desks):
    """What comes first where two refusals are due."""

    def test_no_doer_ahead_of_no_rules(self):
        desk = Desk(TEXT)
        self.says(desk, ("again", NoDoer), ("back", NoDoer), ("begin", NoRules), ("begin x", NoRules))

    def test_no_rules_ahead_of_no_drawer(self):
        self.says(Desk(TEXT), ("wish x", NoRules), ("begin x", NoRules))

    def test_full_ahead_of_rules_that_are_none(self):
        desk = self.desk(TEXT, *["rule slip a b 0"] * 20)
        self.says(desk, ("rule slip a:b {1 0", Full), ("rule x a b 0", Full), ("rule slip a b", NoLine))

    def test_no_drawer_ahead_of_no_place_ahead_of_meets(self):
        desk = self.desk(TEXT, "rule slip a b 0", "rule slip note x/y 0")
        self.says(desk, ("begin x", NoDrawer), ("begin", NoPlace), ("begin desk", Meets))


class Several(Desks):
    def test_two_desks_by_turns(self):
        one, other = self.desk(RING, *RING_RULES, "begin"), self.desk(TEXT, "rule drawer desk table 0", "begin")
        for left in range(10, 0, -1):
            self.says(one, ("do 1", f"left {left - 1}"))
            if left > 6:
                self.says(other, ("do 1", f"left {left - 7}"))
        self.says(one, ("show", "slip a 2, slip b 1"))
        self.says(other, ("move table desk", "ok"), ("show", SHOWN), ("begin", "moves 1 rings 0"))
        self.says(other, ("do 1000", "left 0"), ("forget", "ok"))
        self.says(one, ("wish", "a b, b a"), ("stop", NoDoer), ("again", "left 0"))
        self.says(other, ("wish", NoRules), ("back", "left 4"))

    def test_two_desks_of_one_text(self):
        one, other = Desk(TEXT), Desk(TEXT)
        self.says(one, ("drop note", "ok"), ("rule slip a c 0", "ok"), ("begin", "moves 1 rings 0"))
        self.says(other, ("show", SHOWN), ("wish", NoRules), ("do 1", NoDoer), ("drop note", "ok"))

    def test_what_is_refused_changes_nothing(self):
        desk = self.desk(RING, *RING_RULES, "begin", "do 6")
        self.changes_nothing(
            desk,
            ("put c 1", Busy), ("again", Busy), ("rule slip a:b x 0", NoPattern), ("rule x a b 0", NoRule),
            ("wish x", NoDrawer), ("same a a * {1} 4", TooMuch), ("x", NoLine), ("begin", Busy),
        )
        self.says(desk, ("do 4", "left 0"), ("show", "slip a 2, slip b 1"), ("wish", "a b, b a"))


class ByChance(Desks):
    """Desks that are told many lines by chance."""

    LINES = (
        "show", "show", "put {p} 5", "make {p}", "drop {p}", "move {p} {p}", "move {p} {p}", "rule slip {n} {n} 0",
        "rule drawer {n} {n} 0", "rule all ? x 0", "rule slip ? d/{{1}} 0", "forget", "wish", "wish d",
        "begin", "begin", "begin d", "do 0", "do 1", "do 2", "do 3", "do 5", "do 1000", "book", "stop", "stop",
        "again", "again", "back", "show x", "do", "same {n} x {n} x 1",
    )

    def line(self, chance):
        form = chance.choice(self.LINES)
        while "{p}" in form or "{n}" in form:
            form = form.replace("{p}", chance.choice(("a", "b", "c", "d", "d/a", "d/b", "e/a")), 1)
            form = form.replace("{n}", chance.choice("abcd"), 1)
        return form.replace("{{", "{").replace("}}", "}")

    def told(self, desk, line):
        try:
            return desk.say(line)
        except HallError as refusal:
            return type(refusal).__name__

    def test_a_stopped_desk_ends_as_one_that_was_not(self):
        # Both are told the same, but one is stopped and begun again wherever its doer has small steps left.
        text = "drawer d\nslip d/a 1\nslip a 2\nslip b 3"
        stops = 0
        for seed in range(150):
            chance = random.Random(seed)
            one, other = Desk(text), Desk(text)
            for _ in range(60):
                line = self.line(chance)
                self.assertEqual(self.told(one, line), self.told(other, line), (seed, line))
                book = self.told(other, "book")
                if "begin;" in book and book.count("done ") < book.count("move "):
                    self.says(other, ("stop", "ok"))
                    other.say("again")
                    stops += 1
        self.assertGreater(stops, 100)

    def test_a_kept_book_fits_the_hall(self):
        # The book goes with each deed that changes the hall otherwise, so no desk strays.
        for seed in range(150):
            chance = random.Random(seed)
            desk = Desk("drawer d\nslip d/a 1\nslip a 2\nslip b 3")
            for _ in range(60):
                line = self.line(chance)
                self.assertNotIn(self.told(desk, line), ("Strayed", "Broken"), (seed, line))


if __name__ == "__main__":
    unittest.main()
