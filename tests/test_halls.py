"""Points 10 and 11: halls and what is asked of them; points 2 and 4 where they speak of them."""

import itertools
import unittest

from renamehall.errors import HallError, NoDrawer, NoHall, NoThing
from renamehall.halls import Hall

DEEP = ("a", "b", "c", "d", "e", "f")
SOME = [
    (("desk", "tax", "y24"), 24),
    (("desk",), None),
    (("note",), 7),
    (("desk", "tax"), None),
    (("desk", "a"), 0),
    (("box",), None),
]


def sorted_rows(rows):
    return sorted(rows, key=lambda row: row[0])


class Made(unittest.TestCase):
    def made(self, rows):
        for blind in (False, True):
            with self.subTest((rows, blind)):
                hall = Hall(rows, blind)
                self.assertEqual(hall.rows(), sorted_rows(rows))
                self.assertIs(hall.is_blind(), blind)

    def test_a_hall_without_rows(self):
        self.made([])

    def test_one_row(self):
        self.made([(("a",), None)])
        self.made([(("a",), 0)])
        self.made([(("a",), 10 ** 9)])

    def test_rows_in_any_order(self):
        for rows in itertools.permutations(SOME):
            for blind in (False, True):
                self.assertEqual(Hall(list(rows), blind).rows(), sorted_rows(SOME))

    def test_a_drawer_behind_all_that_lies_in_it(self):
        self.made([(DEEP[:many], None) for many in range(6, 0, -1)])
        self.made([(DEEP, 5)] + [(DEEP[:many], None) for many in range(5, 0, -1)])

    def test_sixty_rows(self):
        self.made([((f"t{k}",), k) for k in range(60)])
        self.made([(("d", f"t{k}"), k if k % 2 else None) for k in range(59)] + [(("d",), None)])

    def test_the_rows_of_a_hall_beyond_its_bound_are_not_refused(self):
        self.made([((f"t{k}",), k) for k in range(64)])

    def test_the_same_mark_twice(self):
        self.made([(("a",), 1), (("b",), 1)])

    def test_the_same_name_in_two_drawers(self):
        self.made([(("a",), None), (("b",), None), (("a", "a"), None), (("b", "a"), 1), (("a", "a", "a"), 2)])

    def test_not_blind_without_a_word_of_it(self):
        self.assertIs(Hall([]).is_blind(), False)
        self.assertEqual(Hall([(("a",), 1), (("A",), 2)]).rows(), [(("A",), 2), (("a",), 1)])

    def test_alike_names_where_the_hall_is_not_blind(self):
        rows = [(("ab",), None), (("aB",), None), (("AB",), 3), (("ab", "x"), 1), (("ab", "X"), 2), (("aB", "x"), 3)]
        self.assertEqual(Hall(rows).rows(), sorted_rows(rows))

    def test_alike_names_in_two_drawers_of_a_blind_hall(self):
        self.made([(("a",), None), (("b",), None), (("a", "x"), 1), (("b", "X"), 2), (("X",), 3)])

    def test_rows_are_sorted_by_signs(self):
        rows = [(("a",), None), (("Z",), 1), (("a", "b"), 2), (("a.b",), 3), (("a-b",), 4), (("0",), 5), (("_",), 6)]
        told = [("0",), ("Z",), ("_",), ("a",), ("a", "b"), ("a-b",), ("a.b",)]
        self.assertEqual([path for path, mark in Hall(rows).rows()], told)


class Refused(unittest.TestCase):
    def refused(self, rows, at, blinds=(False, True)):
        for blind in blinds:
            with self.subTest((rows, blind)):
                with self.assertRaises(NoHall) as caught:
                    Hall(rows, blind)
                self.assertEqual(caught.exception.at, at)
                self.assertIs(type(caught.exception.at), int)
                self.assertEqual(type(caught.exception).__bases__, (HallError,))

    def test_no_such_drawer(self):
        self.refused([(("a", "b"), 1)], 0)
        self.refused([(("a", "b"), None)], 0)
        self.refused([(("a",), None), (("b", "c"), 1)], 1)
        self.refused([(("a",), None), (("a", "b", "c"), 1)], 1)
        self.refused([(("a",), None), (("c",), 1), (("b", "a"), 1), (("d",), 1)], 2)

    def test_a_drawer_that_itself_has_none(self):
        self.refused([(("a", "b"), None), (("a", "b", "c"), 1)], 0)
        self.refused([(("a", "b", "c"), 1), (("a", "b"), None)], 1)

    def test_a_slip_as_a_drawer(self):
        self.refused([(("a",), 1), (("a", "b"), 2)], 1)
        self.refused([(("a", "b"), 2), (("a",), 1)], 0)
        self.refused([(("a",), 0), (("a", "b"), None)], 1)

    def test_drawers_alike_but_not_the_same(self):
        self.refused([(("a",), None), (("A", "b"), 1)], 1)
        self.refused([(("A", "b"), 1), (("a",), None)], 0)
        self.refused([(("a",), None), (("a", "B"), None), (("a", "b", "c"), 1)], 2)

    def test_a_place_that_is_taken(self):
        self.refused([(("a",), 1), (("a",), 1)], 1)
        self.refused([(("a",), 1), (("b",), 1), (("a",), None)], 2)
        self.refused([(("a",), None), (("a",), None), (("a", "b"), 1)], 1)
        self.refused([(("d",), None), (("d", "a"), 1), (("a",), 1), (("d", "a"), 2)], 3)

    def test_a_place_that_is_taken_by_a_name_alike(self):
        self.refused([(("a",), 1), (("A",), 1)], 1, (True,))
        self.refused([(("d",), None), (("d", "Tax"), None), (("tax",), 1), (("d", "tAX"), 2)], 3, (True,))
        self.refused([(("a",), None), (("A",), None), (("A", "x"), 1)], 1, (True,))

    def test_the_later_of_two_rows_is_refused_whatever_lies_in_it(self):
        self.refused([(("a", "x"), 1), (("A",), 1), (("a",), None)], 2, (True,))
        self.refused([(("a", "x"), 1), (("a",), 1), (("a",), None)], 2)

    def test_the_first_of_several_bad_rows(self):
        self.refused([(("a",), 1), (("x", "y"), 1), (("a",), 2)], 1)
        self.refused([(("a",), 1), (("a",), 2), (("x", "y"), 1)], 1)
        self.refused([(("x", "y"), 1), (("x", "z"), 1)], 0)

    def test_the_last_of_sixty_rows(self):
        rows = [((f"t{k}",), k) for k in range(59)]
        self.refused([*rows, (("t0",), 1)], 59)
        self.refused([*rows, (("t0", "a"), 1)], 59)
        self.refused([*rows, (("T58",), 1)], 59, (True,))


class Asked(unittest.TestCase):
    def setUp(self):
        self.plain = Hall(SOME)
        self.blind = Hall(SOME, True)

    def test_there_tells_the_path(self):
        for hall in (self.plain, self.blind):
            for path, _ in SOME:
                self.assertEqual(hall.there(path), path)
            for path in (("x",), ("desk", "x"), ("box", "a"), ("note", "a"), ("x", "y"), ("tax",), ("desk", "desk")):
                self.assertIsNone(hall.there(path))

    def test_there_holds_the_last_name_alike_in_a_blind_hall(self):
        for place, path in (
            (("DESK",), ("desk",)),
            (("Note",), ("note",)),
            (("desk", "TAX"), ("desk", "tax")),
            (("desk", "A"), ("desk", "a")),
            (("desk", "tax", "Y24"), ("desk", "tax", "y24")),
        ):
            with self.subTest(place):
                self.assertEqual(self.blind.there(place), path)
                self.assertIsNone(self.plain.there(place))

    def test_there_holds_all_other_names_sign_by_sign(self):
        for place in (("Desk", "tax"), ("Desk", "A"), ("desk", "Tax", "y24"), ("DESK", "tax", "y24")):
            with self.subTest(place):
                self.assertIsNone(self.blind.there(place))
                self.assertIsNone(self.plain.there(place))

    def test_there_of_alike_names_where_the_hall_is_not_blind(self):
        hall = Hall([(("a",), 1), (("A",), 2)])
        self.assertEqual(hall.there(("a",)), ("a",))
        self.assertEqual(hall.there(("A",)), ("A",))

    def test_marks(self):
        for hall in (self.plain, self.blind):
            for path, mark in SOME:
                self.assertEqual(hall.mark_of(path), mark)
        self.assertEqual(Hall([(("a",), 0)]).mark_of(("a",)), 0)
        self.assertEqual(Hall([(("a",), 10 ** 9)]).mark_of(("a",)), 10 ** 9)
        self.assertIsNone(Hall([(("a",), None)]).mark_of(("a",)))

    def test_marks_of_no_thing(self):
        for hall in (self.plain, self.blind):
            for path in ((), ("x",), ("Desk",), ("NOTE",), ("desk", "TAX"), ("tax",), ("note", "x"), ("x", "y", "z")):
                with self.subTest(path):
                    with self.assertRaises(NoThing) as caught:
                        hall.mark_of(path)
                    self.assertEqual(caught.exception.path, path)
                    self.assertEqual(type(caught.exception).__bases__, (HallError,))

    def test_drawers(self):
        for hall in (self.plain, self.blind):
            for path in ((), ("desk",), ("desk", "tax"), ("box",)):
                self.assertIs(hall.is_drawer(path), True)
            for path in (("note",), ("desk", "a"), ("desk", "tax", "y24"), ("x",), ("Desk",), ("desk", "TAX")):
                self.assertIs(hall.is_drawer(path), False)
        self.assertIs(Hall([]).is_drawer(()), True)
        self.assertIs(Hall([(("a",), 0)]).is_drawer(("a",)), False)

    def test_names(self):
        for hall in (self.plain, self.blind):
            self.assertEqual(hall.names_in(()), ["box", "desk", "note"])
            self.assertEqual(hall.names_in(("desk",)), ["a", "tax"])
            self.assertEqual(hall.names_in(("desk", "tax")), ["y24"])
            self.assertEqual(hall.names_in(("box",)), [])
        self.assertEqual(Hall([]).names_in(()), [])

    def test_names_are_sorted_by_signs(self):
        names = ["a", "Z", "-", ".", "0", "_", "aa", "A", "10", "9"]
        hall = Hall([(("d", name), 1) for name in names] + [(("d",), None)])
        self.assertEqual(hall.names_in(("d",)), ["-", ".", "0", "10", "9", "A", "Z", "_", "a", "aa"])

    def test_names_in_no_drawer(self):
        for hall in (self.plain, self.blind):
            for path in (("note",), ("x",), ("Desk",), ("desk", "a"), ("desk", "Tax"), ("x", "y"), ("note", "x", "y")):
                with self.subTest(path):
                    with self.assertRaises(NoDrawer) as caught:
                        hall.names_in(path)
                    self.assertEqual(caught.exception.path, path)
                    self.assertEqual(type(caught.exception).__bases__, (HallError,))

    def test_asking_changes_nothing(self):
        for hall in (self.plain, self.blind):
            hall.there(("x",))
            hall.is_drawer(("x",))
            hall.names_in(())
            self.assertEqual(hall.rows(), sorted_rows(SOME))


class Lists(unittest.TestCase):
    def test_handed_rows_stay_as_they_are(self):
        rows = list(SOME)
        hall = Hall(rows)
        hall.put(("new",), 1)
        hall.drop(("box",))
        hall.move(("desk",), ("table",))
        self.assertEqual(rows, SOME)

    def test_handed_rows_may_be_changed_afterwards(self):
        rows = list(SOME)
        hall = Hall(rows)
        rows.append((("new",), 1))
        rows[0] = (("other",), 2)
        self.assertEqual(hall.rows(), sorted_rows(SOME))
        rows.clear()
        self.assertEqual(hall.rows(), sorted_rows(SOME))

    def test_told_lists_may_be_changed(self):
        hall = Hall(SOME)
        hall.rows().clear()
        hall.names_in(()).append("x")
        told = hall.rows()
        told[0] = (("x",), 1)
        self.assertEqual(hall.rows(), sorted_rows(SOME))
        self.assertEqual(hall.names_in(()), ["box", "desk", "note"])

    def test_told_lists_are_new_ones(self):
        hall = Hall(SOME)
        self.assertIsNot(hall.rows(), hall.rows())
        self.assertIsNot(hall.names_in(()), hall.names_in(()))
        self.assertIs(type(hall.rows()), list)
        self.assertIs(type(hall.names_in(())), list)
        self.assertEqual([type(row) for row in hall.rows()], [tuple] * len(SOME))

    def test_later_deeds_change_no_told_list(self):
        hall = Hall(SOME)
        rows = hall.rows()
        names = hall.names_in(())
        hall.put(("new",), 1)
        hall.move(("desk",), ("table",))
        self.assertEqual(rows, sorted_rows(SOME))
        self.assertEqual(names, ["box", "desk", "note"])

    def test_two_halls_of_the_same_rows(self):
        one = Hall(SOME)
        other = Hall(one.rows(), True)
        one.drop(("box",))
        self.assertEqual(other.rows(), sorted_rows(SOME))
        other.move(("desk",), ("DESK",))
        self.assertEqual(one.there(("desk", "tax")), ("desk", "tax"))


if __name__ == "__main__":
    unittest.main()
