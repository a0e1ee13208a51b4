"""Point 27: halls as texts; points 2, 4 and 10 where they speak of them."""

import random
import unittest

from models import SOME, some_rows
from renamehall.errors import HallError, NoHall, NoText
from renamehall.figures import read_number
from renamehall.halls import Hall
from renamehall.texts import read_hall, show_hall

SOME_TEXT = """\
drawer box
drawer desk
slip desk/a 1
slip desk/b 2
drawer desk/tax
slip desk/tax/y24 24
slip note 7"""
SIX = "a/b/c/d/e/f"
SIXTY = [f"slip t{k} {k}" for k in range(60)]


class Texts(unittest.TestCase):
    def read(self, text, rows, blind=False):
        with self.subTest(text):
            hall = read_hall(text)
            self.assertIs(type(hall), Hall)
            self.assertEqual(hall.rows(), sorted(rows))
            self.assertIs(hall.is_blind(), blind)

    def refused(self, error, text, number):
        with self.subTest(text), self.assertRaises(error) as caught:
            read_hall(text)
        self.assertIs(type(caught.exception), error)
        self.assertEqual(error.__bases__, (HallError,))
        told = caught.exception.line if error is NoText else caught.exception.at
        self.assertEqual(told, number)
        self.assertIs(type(told), int)

    def no_text(self, text, line):
        self.refused(NoText, text, line)

    def no_hall(self, text, at):
        self.refused(NoHall, text, at)


class Shown(Texts):
    def test_each_sort_of_line(self):
        self.assertEqual(show_hall(Hall([(("a",), None)])), "drawer a")
        self.assertEqual(show_hall(Hall([(("a",), 0)])), "slip a 0")
        self.assertEqual(show_hall(Hall([(("a",), 10 ** 9)])), "slip a 1000000000")
        self.assertEqual(show_hall(Hall(SOME)), SOME_TEXT)
        self.assertEqual(show_hall(Hall(SOME[::-1])), SOME_TEXT)

    def test_blind(self):
        self.assertEqual(show_hall(Hall(SOME, True)), "blind\n" + SOME_TEXT)
        self.assertEqual(show_hall(Hall([(("a",), 5)], True)), "blind\nslip a 5")

    def test_without_rows(self):
        self.assertEqual(show_hall(Hall([])), "")
        self.assertEqual(show_hall(Hall([], True)), "blind")

    def test_the_order_of_rows(self):
        rows = [(("b",), 1), (("a-",), 2), (("a",), None), (("a", "b"), 3), (("A",), 4), (("a.b",), 5)]
        wanted = "slip A 4\ndrawer a\nslip a/b 3\nslip a- 2\nslip a.b 5\nslip b 1"
        self.assertEqual(show_hall(Hall(rows)), wanted)

    def test_as_the_hall_is_now(self):
        hall = Hall(SOME)
        before = show_hall(hall)
        hall.move(("desk",), ("Desk",))
        self.assertEqual(before, SOME_TEXT)
        self.assertEqual(show_hall(hall).split("\n")[:2], ["drawer Desk", "slip Desk/a 1"])


class Read(Texts):
    def test_each_sort_of_line(self):
        self.read("drawer a", [(("a",), None)])
        self.read("slip a 0", [(("a",), 0)])
        self.read("slip a 7", [(("a",), 7)])
        self.read("slip a 10", [(("a",), 10)])
        self.read("slip a 1000000000", [(("a",), 10 ** 9)])
        self.read("slip a 999999999", [(("a",), 999999999)])
        self.read(SOME_TEXT, SOME)
        self.read("drawer slip\ndrawer drawer\nslip blind 5", [(("slip",), None), (("drawer",), None), (("blind",), 5)])

    def test_blind(self):
        self.read("blind\n" + SOME_TEXT, SOME, True)
        self.read("blind\nslip a 1", [(("a",), 1)], True)

    def test_without_rows(self):
        self.read("", [])
        self.read("blind", [], True)

    def test_rows_in_any_order(self):
        chance = random.Random(5)
        lines = SOME_TEXT.split("\n")
        for _ in range(50):
            chance.shuffle(lines)
            self.read("\n".join(lines), SOME)
            self.read("\n".join(["blind", *lines]), SOME, True)
        self.read("slip a/b/c 1\ndrawer a/b\ndrawer a", [(("a",), None), (("a", "b"), None), (("a", "b", "c"), 1)])

    def test_six_names_and_twelve_signs(self):
        lines = ["drawer " + SIX[:many] for many in range(1, 11, 2)] + ["slip " + SIX + " 5"]
        names = tuple("abcdef")
        self.read("\n".join(lines), [(names[:many], None) for many in range(1, 6)] + [(names, 5)])
        self.read("slip abcdefghijkl 1\ndrawer -_.ABC019xyz", [(("abcdefghijkl",), 1), (("-_.ABC019xyz",), None)])

    def test_alike_names(self):
        self.read("slip a 1\nslip A 2", [(("a",), 1), (("A",), 2)])
        self.no_hall("blind\nslip a 1\nslip A 2", 1)

    def test_sixty_rows(self):
        rows = [((f"t{k}",), k) for k in range(60)]
        self.read("\n".join(SIXTY), rows)
        self.read("\n".join(["blind", *SIXTY]), rows, True)

    def test_what_was_shown(self):
        for seed in range(300):
            chance = random.Random(seed)
            blind = seed % 2 == 1
            rows = some_rows(chance, blind, 12, "abAB0-_.", 6)
            text = show_hall(Hall(rows, blind))
            self.read(text, rows, blind)
            self.assertEqual(show_hall(read_hall(text)), text)

    def test_two_halls_of_one_text(self):
        one, other = read_hall(SOME_TEXT), read_hall(SOME_TEXT)
        one.drop(("note",))
        self.assertEqual(other.rows(), SOME)


class NoTexts(Texts):
    BAD = (
        "", " ", "x", "drawer", "drawer ", "drawer  a", " drawer a", "drawer a ", "drawer a b", "drawer a 1",
        "Drawer a", "drawers a", "slip", "slip a", "slip a ", "slip  a 1", "slip a  1", " slip a 1", "slip a 1 ",
        "slip a 1 1", "slip a 1 x", "Slip a 1", "slip 1 a", "slip a b", "blind ", " blind", "Blind", "blind a",
        "blind blind", "a 1", "drawer,a", "slip a,1", "drawer /", "drawer /a", "drawer a/", "drawer a//b",
        "drawer a/b/c/d/e/f/g",
        "drawer abcdefghijklm", "drawer a:b", "drawer a*", "slip / 1", "slip a/ 1", "slip a/b/c/d/e/f/g 1",
        "slip abcdefghijklm 1", "slip a? 1",
    )
    BAD_MARKS = (
        "00", "01", "007", "-1", "+1", "1.", "1_0", "a", "1a", "0x1", "1000000001", "1000000010", "9999999999",
        "10000000000", "01000000000", "0000000000", "9" * 4299, "9" * 5300, "0" * 5300, "1,000", "None",
    )

    def test_as_the_first_line(self):
        for line in self.BAD:
            if line:
                self.no_text(line, 0)
            self.no_text(line + "\nslip z 1", 0)
            self.no_text(line + "\nx", 0)

    def test_as_a_later_line(self):
        for line in (*self.BAD, "blind"):
            self.no_text("drawer z\n" + line, 1)
            self.no_text("drawer z\n" + line + "\nslip y 1", 1)
            self.no_text("blind\n" + line, 1)
            self.no_text("blind\ndrawer z\nslip z/b 1\n" + line + "\nx", 3)

    def test_marks(self):
        for mark in self.BAD_MARKS:
            self.no_text("slip a " + mark, 0)
            self.no_text("drawer z\nslip a " + mark + "\nslip b 1", 1)

    def test_blind_twice_or_behind_a_row(self):
        self.no_text("blind\nblind", 1)
        self.no_text("slip a 1\nblind", 1)
        self.no_text("blind\nslip a 1\nblind", 2)

    def test_a_line_end_at_the_end(self):
        self.no_text("\n", 0)
        self.no_text("drawer a\n", 1)
        self.no_text("blind\n", 1)
        self.no_text(SOME_TEXT + "\n", 7)
        self.no_text("blind\n" + SOME_TEXT + "\n", 8)
        self.no_text("drawer a\n\ndrawer b", 1)

    def test_sixty_one_rows(self):
        self.no_text("\n".join([*SIXTY, "slip x 1"]), 60)
        self.no_text("\n".join(["blind", *SIXTY, "slip x 1"]), 61)
        self.no_text("\n".join([*SIXTY, "drawer x", "drawer y", "drawer z"]), 60)

    def test_sixty_one_rows_and_a_line_that_is_none(self):
        self.no_text("\n".join([*SIXTY[:30], "x", *SIXTY[30:], "slip x 1"]), 30)
        self.no_text("\n".join([*SIXTY, "x"]), 60)
        self.no_text("\n".join([*SIXTY, "slip x 1", "x"]), 60)
        self.no_text("\n".join(["blind", *SIXTY, "slip x 1", "x"]), 61)
        self.no_text("\n".join([*SIXTY, "blind"]), 60)

    def test_ahead_of_no_hall(self):
        self.no_text("slip a 1\nslip a 1\nx", 2)
        self.no_text("slip a/b 1\nslip c 01", 1)
        self.no_text("\n".join([SIXTY[0], *SIXTY]), 60)
        self.no_text("blind\nslip a 1\nslip A 1\n", 3)


class NoHalls(Texts):
    def test_the_index_of_the_row(self):
        self.no_hall("slip a/b 1", 0)
        self.no_hall("slip a 1\nslip a 2", 1)
        self.no_hall("slip a 1\nslip b 1\ndrawer c/d", 2)
        self.no_hall("drawer a\nslip a/b 1\nslip a/b/c 1", 2)
        self.no_hall("slip a/b/c 1\nslip a/b 1\ndrawer a", 0)

    def test_a_blind_line_is_no_row(self):
        self.no_hall("blind\nslip a/b 1", 0)
        self.no_hall("blind\nslip a 1\nslip a 2", 1)
        self.no_hall("blind\nslip a 1\ndrawer A", 1)

    def test_drawers_are_held_sign_by_sign(self):
        self.no_hall("blind\ndrawer a\nslip A/b 1", 1)
        self.no_hall("drawer a\nslip A/b 1", 1)


class Numbers(unittest.TestCase):
    def test_numbers(self):
        for number in (0, 1, 9, 10, 99, 100, 10 ** 9):
            self.assertEqual(read_number(str(number), 0, 10 ** 9), number)
            self.assertIs(type(read_number(str(number), 0, 10 ** 9)), int)

    def test_bounds(self):
        self.assertEqual([read_number(str(number), 1, 4) for number in range(7)], [None, 1, 2, 3, 4, None, None])
        self.assertEqual(read_number("1000", 0, 1000), 1000)
        self.assertIsNone(read_number("1001", 0, 1000))
        self.assertIsNone(read_number("10000", 0, 1000))

    def test_no_numbers(self):
        for text in ("", " ", "00", "01", "+1", "-0", "1 ", " 1", "a", "1a", "1.0", "_1", "0" * 5000, "9" * 5000):
            self.assertIsNone(read_number(text, 0, 10 ** 9))


if __name__ == "__main__":
    unittest.main()
