"""Points 15, 16 and 17: wishes, who meets, the goal; point 2 where it speaks of them."""

import itertools
import random
import unittest

from models import SOME
from renamehall.errors import HallError, Meets, NoWish
from renamehall.halls import Hall
from renamehall.wishes import ask_wishes, goal, meetings


class Held(unittest.TestCase):
    def halls(self, rows, blinds):
        return [Hall(rows, blind) for blind in blinds]

    def reached(self, rows, wishes, wanted, blinds=(False, True)):
        """The wishes are let by, nobody meets, and this is their goal."""
        for hall in self.halls(rows, blinds):
            with self.subTest((wishes, hall.is_blind())):
                self.assertEqual(meetings(hall, wishes), [])
                self.assertIs(ask_wishes(hall, wishes), True)
                told = goal(hall, wishes)
                self.assertEqual(told, sorted(wanted))
                self.assertIs(type(told), list)
                self.assertEqual(hall.rows(), sorted(rows))

    def met(self, rows, wishes, wanted, blinds=(False, True)):
        """Those meet, and what goes beyond is refused with the first of them."""
        for hall in self.halls(rows, blinds):
            with self.subTest((wishes, hall.is_blind())):
                self.assertEqual(meetings(hall, wishes), wanted)
                for asked in (ask_wishes, goal):
                    with self.assertRaises(Meets) as caught:
                        asked(hall, wishes)
                    refusal = caught.exception
                    self.assertEqual((refusal.one, refusal.other, refusal.place), wanted[0])
                    self.assertEqual(type(refusal).__bases__, (HallError,))
                self.assertEqual(hall.rows(), sorted(rows))

    def no_wish(self, rows, wishes, at, blinds=(False, True)):
        for hall in self.halls(rows, blinds):
            for asked in (meetings, ask_wishes, goal):
                with self.subTest((wishes, hall.is_blind(), asked.__name__)):
                    with self.assertRaises(NoWish) as caught:
                        asked(hall, wishes)
                    self.assertEqual(caught.exception.at, at)
                    self.assertIs(type(caught.exception.at), int)
                    self.assertEqual(type(caught.exception).__bases__, (HallError,))
                    self.assertEqual(hall.rows(), sorted(rows))

    def but(self, *pairs):
        """Some rows with other paths for some."""
        paths = dict(pairs)
        return [(paths.get(path, path), mark) for path, mark in SOME]


class Goals(Held):
    def test_no_wishes(self):
        self.reached(SOME, [], SOME)
        self.reached([], [], [])

    def test_wishes_for_the_place_where_the_thing_is(self):
        self.reached(SOME, [(path, path) for path, _ in SOME], SOME)
        self.reached(SOME, [(("desk", "tax"), ("desk", "tax"))], SOME)

    def test_one_slip(self):
        self.reached(SOME, [(("note",), ("memo",))], self.but((("note",), ("memo",))))
        self.reached(SOME, [(("note",), ("box", "note"))], self.but((("note",), ("box", "note"))))
        self.reached(SOME, [(("desk", "a"), ("a",))], self.but((("desk", "a"), ("a",))))

    def test_one_drawer_with_all_that_lies_in_it(self):
        self.reached(SOME, [(("desk", "tax"), ("desk", "t"))], self.but(
            (("desk", "tax"), ("desk", "t")),
            (("desk", "tax", "y24"), ("desk", "t", "y24")),
        ))

    def test_drawers_in_drawers(self):
        self.reached(SOME, [(("desk",), ("table",)), (("desk", "tax"), ("desk", "t"))], self.but(
            (("desk",), ("table",)),
            (("desk", "a"), ("table", "a")),
            (("desk", "b"), ("table", "b")),
            (("desk", "tax"), ("table", "t")),
            (("desk", "tax", "y24"), ("table", "t", "y24")),
        ))

    def test_slips_that_exchange_places(self):
        self.reached(SOME, [(("desk", "a"), ("desk", "b")), (("desk", "b"), ("desk", "a"))], self.but(
            (("desk", "a"), ("desk", "b")),
            (("desk", "b"), ("desk", "a")),
        ))
        self.reached(SOME, [(("desk", "a"), ("note",)), (("note",), ("desk", "a"))], self.but(
            (("desk", "a"), ("note",)),
            (("note",), ("desk", "a")),
        ))

    def test_drawers_that_exchange_names(self):
        self.reached(SOME, [(("desk",), ("box",)), (("box",), ("desk",))], self.but(
            (("desk",), ("box",)),
            (("box",), ("desk",)),
            (("desk", "a"), ("box", "a")),
            (("desk", "b"), ("box", "b")),
            (("desk", "tax"), ("box", "tax")),
            (("desk", "tax", "y24"), ("box", "tax", "y24")),
        ))

    def test_a_drawer_and_a_slip_that_exchange_names(self):
        self.reached([(("a",), None), (("a", "x"), 1), (("b",), 2)], [(("a",), ("b",)), (("b",), ("a",))], [
            (("b",), None),
            (("b", "x"), 1),
            (("a",), 2),
        ])

    def test_a_ring_of_three(self):
        rows = [(("a",), 1), (("b",), 2), (("c",), 3)]
        wishes = [(("a",), ("b",)), (("b",), ("c",)), (("c",), ("a",))]
        self.reached(rows, wishes, [(("a",), 3), (("b",), 1), (("c",), 2)])

    def test_things_that_go_into_a_drawer_that_is_called_otherwise(self):
        self.reached(SOME, [(("box",), ("case",)), (("note",), ("box", "n"))], self.but(
            (("box",), ("case",)),
            (("note",), ("case", "n")),
        ))
        self.reached(SOME, [(("note",), ("box", "n")), (("box",), ("note",))], self.but(
            (("box",), ("note",)),
            (("note",), ("note", "n")),
        ))

    def test_things_that_go_into_drawers_which_exchange_names(self):
        rows = [(("a",), None), (("b",), None), (("a", "x"), 1), (("b", "x"), 2)]
        wishes = [(("a",), ("b",)), (("b",), ("a",)), (("a", "x"), ("b", "x")), (("b", "x"), ("a", "x"))]
        self.reached(rows, wishes, [(("a",), None), (("b",), None), (("a", "x"), 1), (("b", "x"), 2)])

    def test_a_place_is_told_by_the_drawers_that_are_now(self):
        rows = [(("a",), None), (("b",), None), (("s",), 1)]
        wishes = [(("a",), ("b",)), (("b",), ("c",)), (("s",), ("b", "s"))]
        self.reached(rows, wishes, [(("b",), None), (("c",), None), (("c", "s"), 1)])

    def test_the_order_of_wishes_plays_no_part(self):
        wishes = [(("desk",), ("box",)), (("box",), ("desk",)), (("note",), ("desk", "c")), (("desk", "a"), ("a",))]
        wanted = goal(Hall(SOME), wishes)
        for some in itertools.permutations(wishes):
            self.reached(SOME, list(some), wanted)

    def test_a_place_that_another_thing_leaves(self):
        rows = [(("a",), 1), (("b",), 2)]
        self.reached(rows, [(("a",), ("b",)), (("b",), ("c",))], [(("b",), 1), (("c",), 2)])

    def test_alike_names_where_the_hall_is_not_blind(self):
        rows = [(("a",), 1), (("b",), 2)]
        self.reached(rows, [(("b",), ("A",))], [(("A",), 2), (("a",), 1)], (False,))

    def test_names_alike_their_own(self):
        rows = [(("a",), None), (("a", "x"), 1)]
        self.reached(rows, [(("a",), ("A",)), (("a", "x"), ("a", "X"))], [(("A",), None), (("A", "X"), 1)])

    def test_names_alike_in_two_drawers(self):
        rows = [(("a",), None), (("b",), None), (("a", "x"), 1), (("b", "y"), 2)]
        wanted = [(("a",), None), (("b",), None), (("a", "x"), 1), (("b", "X"), 2)]
        self.reached(rows, [(("b", "y"), ("b", "X"))], wanted)

    def test_an_exchange_of_alike_names_in_a_blind_hall(self):
        rows = [(("a",), 1), (("b",), 2)]
        self.reached(rows, [(("a",), ("B",)), (("b",), ("A",))], [(("A",), 2), (("B",), 1)])

    def test_six_names_deep(self):
        names = ("a", "b", "c", "d", "e", "f")
        rows = [(names[:many], None if many < 6 else 9) for many in range(1, 7)]
        wishes = [(names[:many], names[:many - 1] + (names[many - 1].upper() + "x",)) for many in range(1, 7)]
        then = ("Ax", "Bx", "Cx", "Dx", "Ex", "Fx")
        self.reached(rows, wishes, [(then[:many], mark) for many, (_, mark) in enumerate(rows, 1)])

    def test_rows_are_sorted_as_they_are_then(self):
        rows = [(("a",), 1), (("b",), 2), (("c",), 3)]
        told = goal(Hall(rows), [(("a",), ("z",)), (("c",), ("Z",))])
        self.assertEqual(told, [(("Z",), 3), (("b",), 2), (("z",), 1)])

    def test_nobody_meets_among_sixty_things(self):
        rows = [((f"t{k}",), k) for k in range(60)]
        wishes = [((f"t{k}",), (f"t{(k + 1) % 60}",)) for k in range(60)]
        for hall in self.halls(rows, (False, True)):
            self.assertEqual(meetings(hall, wishes), [])
            self.assertIs(ask_wishes(hall, wishes), True)


class Meeting(Held):
    def test_two_that_move(self):
        self.met(SOME, [(("desk", "a"), ("x",)), (("note",), ("x",))], [(("desk", "a"), ("note",), ("x",))])
        self.met(SOME, [(("note",), ("x",)), (("desk", "a"), ("x",))], [(("desk", "a"), ("note",), ("x",))])

    def test_a_thing_that_stays_and_one_that_would_lie_at_its_place(self):
        self.met(SOME, [(("desk", "a"), ("note",))], [(("desk", "a"), ("note",), ("note",))])
        self.met(SOME, [(("note",), ("desk", "a"))], [(("desk", "a"), ("note",), ("desk", "a"))])
        self.met(SOME, [(("box",), ("desk",))], [(("box",), ("desk",), ("desk",))])
        self.met(SOME, [(("note",), ("desk",))], [(("desk",), ("note",), ("desk",))])

    def test_a_thing_that_is_wished_to_stay(self):
        wishes = [(("note",), ("note",)), (("desk", "a"), ("note",))]
        self.met(SOME, wishes, [(("desk", "a"), ("note",), ("note",))])

    def test_the_place_is_told_as_its_drawer_is_called_now(self):
        wishes = [(("desk",), ("table",)), (("note",), ("desk", "a"))]
        self.met(SOME, wishes, [(("desk", "a"), ("note",), ("desk", "a"))])
        rows = [(("a",), None), (("b",), None), (("s",), 1), (("t",), 2)]
        wishes = [(("a",), ("b",)), (("b",), ("a",)), (("s",), ("a", "x")), (("t",), ("a", "x"))]
        self.met(rows, wishes, [(("s",), ("t",), ("a", "x"))])

    def test_names_alike_in_a_blind_hall(self):
        self.met(SOME, [(("desk", "a"), ("NOTE",))], [(("desk", "a"), ("note",), ("NOTE",))], (True,))
        self.met(SOME, [(("note",), ("desk", "A"))], [(("desk", "a"), ("note",), ("desk", "a"))], (True,))
        wishes = [(("desk", "a"), ("box", "xY")), (("note",), ("box", "Xy"))]
        self.met(SOME, wishes, [(("desk", "a"), ("note",), ("box", "xY"))], (True,))
        self.met(SOME, [(("box",), ("DESK",))], [(("box",), ("desk",), ("DESK",))], (True,))

    def test_the_drawer_that_a_thing_left_plays_no_part(self):
        rows = [(("a",), None), (("b",), None), (("a", "x"), 1), (("b", "x"), 2)]
        self.met(rows, [(("a", "x"), ("b", "x"))], [(("a", "x"), ("b", "x"), ("b", "x"))])

    def test_things_in_two_drawers_that_meet_do_not_meet(self):
        rows = [(("a",), None), (("b",), None), (("a", "x"), 1), (("b", "x"), 2)]
        self.met(rows, [(("a",), ("b",))], [(("a",), ("b",), ("b",))])
        self.met(rows, [(("a",), ("c",)), (("b",), ("c",))], [(("a",), ("b",), ("c",))])

    def test_three_at_one_place(self):
        rows = [(("a",), 1), (("b",), 2), (("c",), 3)]
        self.met(rows, [(("a",), ("c",)), (("b",), ("c",))], [
            (("a",), ("b",), ("c",)),
            (("a",), ("c",), ("c",)),
            (("b",), ("c",), ("c",)),
        ])

    def test_the_place_has_the_name_of_the_one(self):
        rows = [(("a",), 1), (("b",), 2), (("c",), 3)]
        self.met(rows, [(("a",), ("xy",)), (("b",), ("xY",)), (("c",), ("XY",))], [
            (("a",), ("b",), ("xy",)),
            (("a",), ("c",), ("xy",)),
            (("b",), ("c",), ("xY",)),
        ], (True,))

    def test_several_places_sorted_by_the_ones(self):
        rows = [(("a",), 1), (("b",), 2), (("c",), 3), (("d",), None), (("d", "a"), 4), (("e",), 5)]
        wishes = [(("e",), ("a",)), (("c",), ("d", "a")), (("b",), ("d",))]
        self.met(rows, wishes, [
            (("a",), ("e",), ("a",)),
            (("b",), ("d",), ("d",)),
            (("c",), ("d", "a"), ("d", "a")),
        ])

    def test_twenty_one_things(self):
        rows = [((f"t{k:02}",), k) for k in range(21)]
        wishes = [((f"t{k:02}",), ("x",)) for k in range(21)]
        paths = [path for path, _ in rows]
        self.met(rows, wishes, [(one, other, ("x",)) for one, other in itertools.combinations(paths, 2)])

    def test_told_lists_are_new_ones(self):
        hall = Hall(SOME)
        wishes = [(("desk", "a"), ("note",))]
        told = meetings(hall, wishes)
        self.assertIsNot(meetings(hall, wishes), told)
        told.clear()
        self.assertEqual(meetings(hall, wishes), [(("desk", "a"), ("note",), ("note",))])
        meetings(hall, []).append("x")
        self.assertEqual(meetings(hall, []), [])


class NoWishes(Held):
    def test_no_thing(self):
        for path in (("x",), ("desk", "x"), ("x", "y"), ("note", "x"), ("a",)):
            self.no_wish(SOME, [(path, ("new",))], 0)
            self.no_wish(SOME, [(path, path)], 0)

    def test_a_path_alike_is_none_in_a_blind_hall_too(self):
        for path in (("NOTE",), ("Desk",), ("desk", "A"), ("Desk", "a"), ("desk", "Tax", "y24")):
            self.no_wish(SOME, [(path, path[:-1] + ("new",))], 0)

    def test_a_path_that_was_wished_for_ahead(self):
        self.no_wish(SOME, [(("note",), ("x",)), (("note",), ("y",))], 1)
        self.no_wish(SOME, [(("note",), ("x",)), (("note",), ("x",))], 1)
        self.no_wish(SOME, [(("note",), ("note",)), (("desk", "a"), ("a",)), (("note",), ("note",))], 2)
        self.no_wish(SOME, [(("desk",), ("table",)), (("desk",), ("board",))], 1)

    def test_no_drawer(self):
        self.no_wish(SOME, [(("note",), ("x", "note"))], 0)
        self.no_wish(SOME, [(("note",), ("desk", "x", "note"))], 0)
        self.no_wish(SOME, [(("desk", "a"), ("note", "a"))], 0)
        self.no_wish(SOME, [(("note",), ("note", "a"))], 0)
        self.no_wish(SOME, [(("box",), ("x", "box"))], 0)

    def test_a_drawer_alike_is_none(self):
        self.no_wish(SOME, [(("note",), ("Desk", "note"))], 0)
        self.no_wish(SOME, [(("note",), ("desk", "TAX", "note"))], 0)

    def test_a_drawer_is_told_as_it_is_called_now(self):
        self.no_wish(SOME, [(("box",), ("case",)), (("note",), ("case", "n"))], 1)

    def test_a_drawer_to_another_drawer(self):
        self.no_wish(SOME, [(("box",), ("desk", "box"))], 0)
        self.no_wish(SOME, [(("desk", "tax"), ("tax",))], 0)
        self.no_wish(SOME, [(("desk", "tax"), ("box", "tax"))], 0)
        self.no_wish(SOME, [(("desk",), ("desk", "desk"))], 0)
        self.no_wish(SOME, [(("desk",), ("desk", "tax", "d"))], 0)

    def test_the_first_one_from_the_left(self):
        good = (("desk", "a"), ("desk", "c"))
        self.no_wish(SOME, [good, (("x",), ("y",)), (("box",), ("desk", "box"))], 1)
        self.no_wish(SOME, [good, (("box",), ("desk", "box")), (("x",), ("y",))], 1)
        self.no_wish(SOME, [good, (("note",), ("x", "y")), good], 1)
        self.no_wish(SOME, [good, good, (("note",), ("x", "y"))], 1)

    def test_ahead_of_who_meets(self):
        self.no_wish(SOME, [(("desk", "a"), ("note",)), (("x",), ("y",))], 1)
        self.no_wish(SOME, [(("box",), ("desk",)), (("desk", "b"), ("desk", "a")), (("note",), ("x", "y"))], 2)

    def test_ninety_wishes(self):
        rows = [((f"t{k}",), k) for k in range(60)]
        wishes = [((f"t{k}",), (f"u{k}",)) for k in range(60)]
        self.no_wish(rows, wishes + wishes[:30], 60)


class Lists(unittest.TestCase):
    def test_handed_wishes_stay_as_they_are(self):
        hall = Hall(SOME)
        wishes = [(("note",), ("memo",)), (("desk",), ("table",))]
        for asked in (meetings, ask_wishes, goal):
            asked(hall, wishes)
            self.assertEqual(wishes, [(("note",), ("memo",)), (("desk",), ("table",))])
        self.assertEqual(hall.rows(), SOME)

    def test_a_told_goal_may_be_changed(self):
        hall = Hall(SOME)
        wishes = [(("note",), ("memo",))]
        told = goal(hall, wishes)
        self.assertIsNot(goal(hall, wishes), told)
        wanted = list(told)
        told.clear()
        self.assertEqual(goal(hall, wishes), wanted)
        self.assertEqual(hall.rows(), SOME)

    def test_later_deeds_change_no_told_goal(self):
        hall = Hall(SOME)
        told = goal(hall, [])
        hall.drop(("note",))
        self.assertEqual(told, SOME)

    def test_the_hall_is_asked_as_it_is(self):
        hall = Hall(SOME)
        wishes = [(("note",), ("box", "n"))]
        self.assertEqual(meetings(hall, wishes), [])
        hall.put(("box", "n"), 1)
        self.assertEqual(meetings(hall, wishes), [(("box", "n"), ("note",), ("box", "n"))])
        hall.move(("note",), ("memo",))
        with self.assertRaises(NoWish):
            meetings(hall, wishes)


class ByNumbers(unittest.TestCase):
    """Against things with numbers, each in a drawer that is one of them."""

    def rows(self, chance, blind):
        hall = Hall([], blind)
        for _ in range(12):
            drawers = [path for path, mark in [((), None), *hall.rows()] if mark is None and len(path) < 3]
            path = chance.choice(drawers) + (chance.choice("abcABC"),)
            if hall.there(path) is None:
                hall.put(path, chance.choice([None, None, 1]))
        return hall.rows()

    def wishes(self, chance, rows):
        drawers = [(), *[path for path, mark in rows if mark is None]]
        told = []
        for path, mark in rows:
            drawer = path[:-1] if mark is None else chance.choice(drawers)
            if chance.random() < 0.6:
                told.append((path, drawer + (chance.choice("abcdABCD"),)))
        chance.shuffle(told)
        return told

    def answers(self, rows, wishes, blind):
        """Who meets, and the goal."""
        numbers = {path: number for number, (path, _) in enumerate(rows)}
        things = [[numbers.get(path[:-1]), path[-1], path[:-1]] for path, _ in rows]
        for path, place in wishes:
            things[numbers[path]] = [numbers.get(place[:-1]), place[-1], place[:-1]]
        met = []
        for one, other in itertools.combinations(range(len(rows)), 2):
            names = [things[one][1], things[other][1]]
            if things[one][0] == things[other][0] and len({n.lower() if blind else n for n in names}) == 1:
                met.append((rows[one][0], rows[other][0], things[one][2] + (things[one][1],)))

        def path(number):
            return () if number is None else path(things[number][0]) + (things[number][1],)

        return met, [(path(number), mark) for number, (_, mark) in enumerate(rows)]

    def test_many_wishes(self):
        free = 0
        for seed in range(1500):
            chance = random.Random(seed)
            blind = seed % 2 == 1
            rows = self.rows(chance, blind)
            wishes = self.wishes(chance, rows)
            hall = Hall(rows, blind)
            met, wanted = self.answers(rows, wishes, blind)
            self.assertEqual(meetings(hall, wishes), met, (seed, rows, wishes))
            if met:
                self.assertRaises(Meets, goal, hall, wishes)
            else:
                free += 1
                self.assertEqual(goal(hall, wishes), sorted(wanted, key=lambda row: row[0]), (seed, rows, wishes))
                Hall(goal(hall, wishes), blind)
        self.assertGreater(free, 100)


if __name__ == "__main__":
    unittest.main()
