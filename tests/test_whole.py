"""Points 2 and 3, over the whole program: from a text by rules, wishes, a row and a doer to a text, and back."""

import random
import unittest

from models import Model, some_rows
from renamehall.books import Doer, begun_again, way_back
from renamehall.desk import Desk
from renamehall.errors import HallError, Meets, NoBook, NoPlace
from renamehall.halls import Hall
from renamehall.ordering import does, row_for
from renamehall.rings import rings
from renamehall.sowing import wishes_of
from renamehall.texts import read_hall, show_hall
from renamehall.walks import turned_back, walk
from renamehall.wishes import goal

TEXT = """\
drawer in
slip in/img_1.png 11
slip in/img_2.png 12
drawer in/old
slip in/old/a 1
slip in/old/b 2
drawer out
slip out/a 3
slip readme 5"""
RULES = [
    ("slip", "img_#.@", "out/{2u}-{1z3}", 0),
    ("slip", "a", "b", 0),
    ("slip", "b", "a", 0),
    ("drawer", "in", "out", 0),
    ("drawer", "out", "in", 0),
    ("slip", "*", "{1u}.{n2}", 7),
]
TEXT_THEN = """\
drawer in
slip in/PNG-001 11
slip in/PNG-002 12
slip in/b 3
drawer out
drawer out/old
slip out/old/a 2
slip out/old/b 1
slip README.07 5"""


class Whole(unittest.TestCase):
    def through(self, text, rules, chance):
        """Go from a text to the one at the end, with stops, and back; tell the one at the end."""
        hall = read_hall(text)
        self.assertEqual(show_hall(hall), text)
        wishes = wishes_of(hall, (), rules)
        row = row_for(hall, wishes)
        self.assertTrue(does(hall, wishes, row))
        moving = [path for path, place in wishes if path != place]
        self.assertEqual(len(row), len(moving) + len(rings(hall, wishes)))
        then = goal(hall, wishes)
        self.assertEqual(walk(hall, row).rows(), then)
        self.assertEqual(walk(walk(hall, row), turned_back(row)).rows(), hall.rows())
        doer = self.done(Doer(hall, row), chance, hall)
        self.assertEqual(show_hall(hall), text)
        last = doer.hall()
        self.assertEqual(last.rows(), then)
        back = self.done(way_back(last, doer.book()), chance, last)
        self.assertEqual(show_hall(back.hall()), text)
        return show_hall(last)

    def done(self, doer, chance, first):
        """Do all small steps with stops between, from which there is a way back, and tell the doer at the end."""
        while doer.left() > 0:
            doer.do(chance.randrange(4))
            piece = chance.choice(("", "do", "done 1", "begin", "m"))
            hall = read_hall(show_hall(doer.hall()))
            if "begin" in doer.book():
                doer = begun_again(hall, doer.book() + piece)
                back = way_back(hall, doer.book() + piece)
                back.do(1000)
                self.assertEqual(back.hall().rows(), first.rows())
            else:
                self.assertRaises(NoBook, begun_again, hall, doer.book() + piece)
        return doer

    def test_from_text_to_text(self):
        then = self.through(TEXT, RULES, random.Random(1))
        self.assertEqual(sorted(then.split("\n")), sorted(TEXT_THEN.split("\n")))

    def test_blind(self):
        then = self.through("blind\n" + TEXT, RULES, random.Random(2))
        self.assertEqual(sorted(then.split("\n")), sorted(["blind", *TEXT_THEN.split("\n")]))

    def test_many_halls(self):
        rules = [("all", "a*", "b{1}", 0), ("all", "b*", "c{1}", 0), ("all", "c*", "a{1}", 0), ("all", "?", "{1l}", 0)]
        some = [
            rules, [("drawer", "@", "{1u}", 0), ("slip", "@", "{1l}x", 0)], [("slip", "?", "t{n}", 3)],
            [("all", "?", "{n}", 0)], [("slip", "a", "b/{n}", 0), ("all", "*", "{1}{1}", 0)],
        ]
        gone = 0
        for seed in range(150):
            chance = random.Random(seed)
            blind = seed % 2 == 1
            hall = Hall(some_rows(chance, blind, 9), blind)
            try:
                self.through(show_hall(hall), chance.choice(some), chance)
                gone += 1
            except (Meets, NoPlace):
                pass
        self.assertGreater(gone, 60)

    def test_at_a_desk(self):
        for blind in ("", "blind\n"):
            for every in (1, 2, 3, 7, 1000):
                desk = Desk(blind + TEXT)
                first = desk.say("show")
                for kind, pattern, template, start in RULES:
                    self.assertEqual(desk.say(f"rule {kind} {pattern} {template} {start}"), "ok")
                wishes = desk.say("wish").split(", ")
                self.assertIn("in/img_1.png out/PNG-001", wishes)
                self.assertEqual(desk.say("begin"), "moves 10 rings 2")
                self.assertEqual(desk.say("do 11"), "left 20")
                for left in range(20, 0, -every):
                    self.assertEqual(desk.say("stop"), "ok")
                    self.assertEqual(desk.say("again"), f"left {left}")
                    self.assertEqual(desk.say(f"do {every}"), f"left {max(left - every, 0)}")
                self.assertEqual(sorted(desk.say("show").split(", ")), sorted((blind + TEXT_THEN).split("\n")))
                self.assertEqual(desk.say("back"), "left 31")
                self.assertEqual(desk.say("do 1000"), "left 0")
                self.assertEqual(desk.say("show"), first)

    def test_nothing_that_is_handed_in_is_changed(self):
        hall = read_hall(TEXT)
        rules = list(RULES)
        wishes = wishes_of(hall, (), rules)
        before = list(wishes)
        row = row_for(hall, wishes)
        made = list(row)
        doer = Doer(hall, row)
        doer.do(1000)
        way_back(doer.hall(), doer.book()).do(1000)
        begun_again(hall, "\n".join(doer.book().split("\n")[:11]) + "\n").do(1000)
        self.assertEqual((show_hall(hall), rules, wishes, row), (TEXT, RULES, before, made))

    def test_what_is_done_afterwards_plays_no_part(self):
        hall = read_hall(TEXT)
        row = row_for(hall, wishes_of(hall, (), RULES))
        doer = Doer(hall, row)
        row.clear()
        hall.drop(("readme",))
        doer.do(1000)
        self.assertEqual(sorted(show_hall(doer.hall()).split("\n")), sorted(TEXT_THEN.split("\n")))

    def test_every_refusal_at_a_desk_is_a_hall_error(self):
        desk = Desk(TEXT)
        for line in ("", "x", "put a/b 1", "drop in", "move in out", "wish", "begin", "do 1", "again", "rule a b c 0"):
            with self.assertRaises(HallError):
                desk.say(line)
        self.assertEqual(desk.say("show"), TEXT.replace("\n", ", "))

    def test_the_model_tells_the_same_end(self):
        hall = read_hall(TEXT)
        wishes = wishes_of(hall, (), RULES)
        model = Model(hall.rows(), False)
        model.lies = model.wish(wishes)
        self.assertEqual(goal(hall, wishes), model.rows())


if __name__ == "__main__":
    unittest.main()
