"""Points 21 and 22: halls walked by rows, and rows turned back; points 2, 3 and 13 where they speak of them."""

import random
import unittest

from models import SOME, some_moves, some_rows
from renamehall.errors import Broken, HallError
from renamehall.halls import Hall
from renamehall.walks import turned_back, walk


class Walks(unittest.TestCase):
    def walked(self, rows, row, wanted, blinds=(False, True)):
        """The walk leads there, the hall handed in stays, and the row turned back leads to it again."""
        for blind in blinds:
            with self.subTest((row, blind)):
                hall = Hall(rows, blind)
                told = walk(hall, row)
                self.assertIs(type(told), Hall)
                self.assertEqual(told.rows(), sorted(wanted))
                self.assertIs(told.is_blind(), blind)
                self.assertEqual(hall.rows(), sorted(rows))
                self.assertIs(hall.is_blind(), blind)
                back = walk(told, turned_back(row))
                self.assertEqual(back.rows(), sorted(rows))
                self.assertIs(back.is_blind(), blind)
                self.assertEqual(told.rows(), sorted(wanted))

    def broken(self, rows, row, at, blinds=(False, True)):
        for blind in blinds:
            with self.subTest((row, blind)):
                hall = Hall(rows, blind)
                with self.assertRaises(Broken) as caught:
                    walk(hall, row)
                self.assertEqual(caught.exception.at, at)
                self.assertIs(type(caught.exception.at), int)
                self.assertEqual(Broken.__bases__, (HallError,))
                self.assertEqual(hall.rows(), sorted(rows))

    def but(self, *pairs):
        """Some rows with other paths for some."""
        paths = dict(pairs)
        return [(paths.get(path, path), mark) for path, mark in SOME]

    def test_the_empty_row(self):
        self.walked(SOME, [], SOME)
        self.walked([], [], [])

    def test_one_move(self):
        self.walked(SOME, [(("note",), ("memo",))], self.but((("note",), ("memo",))))
        self.walked(SOME, [(("note",), ("desk", "note"))], self.but((("note",), ("desk", "note"))))

    def test_a_drawer_with_all_that_lies_in_it(self):
        self.walked(SOME, [(("desk",), ("table",))], self.but(
            (("desk",), ("table",)),
            (("desk", "a"), ("table", "a")),
            (("desk", "b"), ("table", "b")),
            (("desk", "tax"), ("table", "tax")),
            (("desk", "tax", "y24"), ("table", "tax", "y24")),
        ))

    def test_paths_are_others_from_move_to_move(self):
        row = [
            (("desk",), ("table",)),
            (("table", "tax"), ("table", "t")),
            (("note",), ("table", "t", "n")),
            (("table",), ("desk",)),
            (("desk", "t", "y24"), ("note",)),
        ]
        self.walked(SOME, row, self.but(
            (("desk", "tax"), ("desk", "t")),
            (("desk", "tax", "y24"), ("note",)),
            (("note",), ("desk", "t", "n")),
        ))

    def test_moves_in_order(self):
        rows = [(("a",), 1), (("b",), 2)]
        self.walked(rows, [(("a",), ("c",)), (("b",), ("a",)), (("c",), ("b",))], [(("a",), 2), (("b",), 1)])
        self.broken(rows, [(("b",), ("a",)), (("a",), ("c",)), (("c",), ("b",))], 0)

    def test_a_name_alike_its_own(self):
        self.walked(SOME, [(("note",), ("NOTE",)), (("NOTE",), ("Note",))], self.but((("note",), ("Note",))))
        self.walked(SOME, [(("box",), ("BOX",)), (("note",), ("BOX", "n"))], self.but(
            (("box",), ("BOX",)),
            (("note",), ("BOX", "n")),
        ))

    def test_refused_moves(self):
        good = (("note",), ("memo",))
        bad = [
            (("x",), ("y",)),
            (("desk", "x"), ("y",)),
            (("Desk",), ("y",)),
            (("desk", "a"), ("x", "a")),
            (("desk", "a"), ("Desk", "b")),
            (("desk", "a"), ("desk", "a", "b")),
            (("box",), ("desk", "box")),
            (("desk", "tax"), ("tax",)),
            (("desk", "a"), ("desk", "tax")),
            (("desk", "a"), ("desk", "a")),
            (("box",), ("box",)),
        ]
        for move in bad:
            self.broken(SOME, [move], 0)
            self.broken(SOME, [good, move], 1)
            self.broken(SOME, [good, (("memo",), ("note",)), move, good], 2)
        self.broken(SOME, [good, good], 1)
        self.broken(SOME, [good, bad[0], bad[1]], 1)

    def test_refused_in_a_blind_hall_alone(self):
        row = [(("desk", "a"), ("NOTE",))]
        self.broken(SOME, row, 0, (True,))
        self.walked(SOME, row, self.but((("desk", "a"), ("NOTE",))), (False,))

    def test_a_hall_with_sixty_things(self):
        rows = [((f"t{k}",), k) for k in range(60)]
        self.walked(rows, [((f"t{k}",), (f"u{k}",)) for k in range(60)], [((f"u{k}",), k) for k in range(60)])

    def test_the_told_hall_is_its_own(self):
        hall = Hall(SOME)
        for row in ([], [(("note",), ("memo",))]):
            told = walk(hall, row)
            told.put(("new",), 1)
            told.drop(("box",))
            self.assertEqual(hall.rows(), SOME)
            hall.put(("other",), 2)
            self.assertIsNone(told.there(("other",)))
            hall.drop(("other",))

    def test_a_broken_walk_changes_nothing_also_behind_good_moves(self):
        hall = Hall(SOME)
        row = [(("note",), ("memo",)), (("desk",), ("table",)), (("x",), ("y",))]
        self.assertRaises(Broken, walk, hall, row)
        self.assertEqual(hall.rows(), SOME)
        self.assertEqual(len(row), 3)

    def test_handed_rows_stay_as_they_are(self):
        row = [(("note",), ("memo",)), (("desk",), ("table",))]
        walk(Hall(SOME), row)
        self.assertEqual(row, [(("note",), ("memo",)), (("desk",), ("table",))])

    def test_many_rows(self):
        for seed in range(400):
            chance = random.Random(seed)
            blind = seed % 2 == 1
            rows = some_rows(chance, blind, 12)
            row, then = some_moves(chance, rows, blind, 60)
            self.walked(rows, row, then.rows(), (blind,))


class TurnedBack(unittest.TestCase):
    def test_the_empty_row(self):
        self.assertEqual(turned_back([]), [])

    def test_one_move(self):
        self.assertEqual(turned_back([(("a",), ("b", "c"))]), [(("b", "c"), ("a",))])

    def test_the_other_order(self):
        row = [(("a",), ("b",)), (("c", "d"), ("e",)), (("f",), ("c", "g"))]
        self.assertEqual(turned_back(row), [(("c", "g"), ("f",)), (("e",), ("c", "d")), (("b",), ("a",))])
        self.assertEqual(row, [(("a",), ("b",)), (("c", "d"), ("e",)), (("f",), ("c", "g"))])

    def test_a_row_that_could_not_be_walked(self):
        self.assertEqual(turned_back([(("a",), ("a",)), (("a",), ("a",))]), [(("a",), ("a",)), (("a",), ("a",))])

    def test_told_lists_are_new_ones(self):
        row = [(("a",), ("b",))]
        told = turned_back(row)
        self.assertIs(type(told), list)
        self.assertIs(type(told[0]), tuple)
        told.clear()
        self.assertEqual(row, [(("a",), ("b",))])
        self.assertEqual(turned_back(row), [(("b",), ("a",))])
        empty = []
        self.assertIsNot(turned_back(empty), empty)

    def test_two_hundred_moves(self):
        row = [((f"n{k}",), (f"n{k + 1}",)) for k in range(200)]
        back = turned_back(row)
        self.assertEqual(back, [((f"n{k + 1}",), (f"n{k}",)) for k in range(199, -1, -1)])
        self.assertEqual(turned_back(back), row)
        hall = Hall([(("n0",), None), (("n0", "x"), 5)])
        then = walk(hall, row)
        self.assertEqual(then.rows(), [(("n200",), None), (("n200", "x"), 5)])
        self.assertEqual(walk(then, back).rows(), hall.rows())


if __name__ == "__main__":
    unittest.main()
