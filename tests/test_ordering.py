"""Point 20: rows that do wishes; point 3 where it speaks of them; points 2, 13, 15 and 16 for them."""

import itertools
import random
import unittest

from models import LETTERS, SOME, Model, pull, some_moves, some_rows, some_wishes, turn
from renamehall.errors import HallError, Meets, NoWish
from renamehall.halls import Hall
from renamehall.ordering import does, more_moves, row_for
from renamehall.rings import rings
from renamehall.walks import turned_back, walk
from renamehall.wishes import goal

SIX = ("a", "b", "c", "d", "e", "f")


class Rows(unittest.TestCase):
    def held(self, rows, wishes, blind):
        """Hold the told row against a hall by numbers, move by move, and tell it."""
        hall = Hall(rows, blind)
        row = row_for(hall, wishes)
        self.assertIs(type(row), list)
        model = Model(rows, blind)
        walked = Hall(rows, blind)
        for path, place in row:
            self.assertLessEqual(len(place), 6)
            self.assertTrue(model.move(path, place), (row, path, place))
            walked.move(path, place)
            self.assertEqual(walked.rows(), model.rows())
        self.assertEqual(model.lies, Model(rows, blind).wish(wishes))
        moving = [path for path, place in wishes if path != place]
        self.assertEqual(len(row), len(moving) + len(Model(rows, blind).rings_and_chains(wishes)[0]))
        self.assertEqual(len(row), len(moving) + len(rings(hall, wishes)))
        self.assertEqual(walked.rows(), goal(hall, wishes))
        self.assertIs(does(hall, wishes, row), True)
        self.assertEqual(more_moves(hall, wishes, row), len(rings(hall, wishes)))
        self.assertEqual(walk(walked, turned_back(row)).rows(), hall.rows())
        self.assertEqual(hall.rows(), sorted(rows))
        return row

    def told(self, rows, wishes, many, blinds=(False, True)):
        """The told row does the wishes, with so many moves."""
        for blind in blinds:
            for some in (wishes, wishes[::-1]):
                with self.subTest((some, blind)):
                    self.assertEqual(len(self.held(rows, some, blind)), many)


class Chains(Rows):
    def test_no_wishes(self):
        self.told(SOME, [], 0)
        self.told([], [], 0)

    def test_wishes_for_the_place_where_the_thing_is(self):
        self.told(SOME, [(path, path) for path, _ in SOME], 0)

    def test_one(self):
        self.told(SOME, [(("note",), ("memo",))], 1)
        self.told(SOME, [(("note",), ("desk", "tax", "note"))], 1)
        self.told(SOME, [(("desk",), ("table",))], 1)

    def test_several(self):
        self.told(LETTERS, pull(("a",), ("b",), ("x",)), 2)
        self.told(LETTERS, pull(("b",), ("a",), ("x",)), 2)
        self.told(LETTERS, pull(("c",), ("a",), ("h",), ("b",), ("x",)), 4)

    def test_several_chains(self):
        wishes = pull(("d",), ("a",), ("x",)) + pull(("c",), ("b",), ("y",)) + pull(("e",), ("z",))
        self.told(LETTERS, wishes, 5)

    def test_things_of_several_drawers(self):
        self.told(SOME, pull(("desk", "tax", "y24"), ("note",), ("desk", "a"), ("box", "a")), 3)

    def test_a_drawer_called_otherwise_and_things_in_it(self):
        wishes = [(("desk",), ("table",)), (("desk", "a"), ("desk", "c")), (("desk", "tax"), ("desk", "t"))]
        self.told(SOME, wishes, 3)

    def test_a_drawer_called_otherwise_and_things_in_drawers_in_it(self):
        wishes = [(("desk",), ("table",)), (("desk", "tax"), ("desk", "t")), (("desk", "tax", "y24"), ("y24",))]
        self.told(SOME, wishes, 3)
        wishes = [(("desk",), ("table",)), (("desk", "tax", "y24"), ("desk", "tax", "y25"))]
        self.told(SOME, wishes, 2)

    def test_a_drawer_called_otherwise_and_things_from_elsewhere(self):
        wishes = [(("desk",), ("table",)), (("note",), ("desk", "note")), (("desk", "a"), ("box", "a"))]
        self.told(SOME, wishes, 3)
        wishes = [(("box",), ("note",)), (("note",), ("box", "note"))]
        self.told(SOME, wishes, 2)
        wishes = [(("desk",), ("note",)), (("note",), ("desk", "tax", "n")), (("desk", "tax"), ("desk", "t"))]
        self.told(SOME, wishes, 3)

    def test_a_name_alike_its_own(self):
        self.told(SOME, [(("note",), ("NOTE",))], 1)
        self.told(SOME, [(("desk",), ("DESK",)), (("desk", "a"), ("desk", "A")), (("note",), ("desk", "n"))], 3)

    def test_sixty_things(self):
        rows = [((f"t{k:02}",), k) for k in range(60)]
        paths = [path for path, _ in rows]
        self.told(rows, pull(*paths, ("x",)), 60)


class Rings(Rows):
    def test_rings_of_two_and_of_several(self):
        self.told(LETTERS, turn(("a",), ("b",)), 3)
        self.told(LETTERS, turn(("c",), ("a",), ("b",)), 4)
        self.told(LETTERS, turn(("d",), ("h",), ("a",), ("c",), ("f",)), 6)

    def test_several_rings_and_chains(self):
        wishes = turn(("d",), ("c",)) + pull(("b",), ("a",), ("x",)) + turn(("g",), ("e",)) + pull(("h",), ("y",))
        self.told(LETTERS, wishes, 9)

    def test_things_of_several_drawers(self):
        self.told(SOME, turn(("note",), ("desk", "a")), 3)
        self.told(SOME, turn(("note",), ("desk", "a"), ("desk", "tax", "y24"), ("desk", "b")), 5)

    def test_drawers_that_exchange_names(self):
        self.told(SOME, turn(("desk",), ("box",)), 3)
        rows = [(("p",), None), (("p", "x"), 1), (("q",), None), (("q", "x"), 1)]
        self.told(rows, turn(("p",), ("q",)), 3)
        self.told(rows, turn(("p",), ("q",)) + turn(("p", "x"), ("q", "x")), 6)

    def test_a_drawer_and_a_slip_that_exchange_names(self):
        self.told(SOME, turn(("desk",), ("note",)), 3)
        self.told(SOME, turn(("desk",), ("note",)) + turn(("desk", "tax"), ("desk", "a")), 6)

    def test_a_ring_through_a_drawer_and_what_lies_in_it(self):
        rows = [(("d",), None), (("d", "x"), 1), (("n",), 2)]
        self.told(rows, turn(("d",), ("n",), ("d", "x")), 4)
        self.told(rows, [(("d", "x"), ("d",)), (("d",), ("e",))], 2)

    def test_rings_of_drawers_with_rings_within_them(self):
        rows = [
            (("p",), None), (("p", "x"), None), (("p", "x", "k"), 1), (("p", "x", "l"), 2), (("p", "y"), 3),
            (("q",), None), (("q", "x"), 4), (("q", "y"), None), (("q", "y", "k"), None),
        ]
        within = turn(("p", "x"), ("p", "y")) + turn(("p", "x", "k"), ("p", "x", "l")) + turn(("q", "y"), ("q", "x"))
        self.told(rows, turn(("p",), ("q",)) + within, 12)
        within = turn(("p", "x", "k"), ("q", "x"), ("p", "y"))
        self.told(rows, turn(("p",), ("q",)) + within + [(("p", "x"), ("p", "x"))], 7)

    def test_a_hall_with_sixty_things(self):
        rows = [((f"t{k:02}",), k) for k in range(60)]
        paths = [path for path, _ in rows]
        self.told(rows, turn(*paths), 61)
        self.told(rows, [wish for k in range(0, 60, 2) for wish in turn(paths[k], paths[k + 1])], 90)
        rows = [(("d",), None), *[(("d", f"t{k:02}"), k) for k in range(59)]]
        paths = [path for path, _ in rows[1:]]
        self.told(rows, turn(*paths) + [(("d",), ("e",))], 61)

    def test_spare_names_that_are_taken(self):
        for names in (list(map(str, range(60))), list("abcdefghijklmnopqrstuvwxyz0123456789-_."), ["0", "1", "00"]):
            rows = [((name,), number) for number, name in enumerate(names)]
            for some in (names, names[:2], names[1:]):
                self.told(rows, turn(*[(name,) for name in some]), len(some) + 1)
        for signs in ("ABCDEFGHIJKLMNOPQRSTUVWXYZ0123456789-_.", "aBcDeFgHiJkLmNoPqRsTuVwXyZ0123456789-_."):
            rows = [((sign,), number) for number, sign in enumerate(signs)]
            self.told(rows, turn(*[(sign,) for sign in signs]), len(signs) + 1)
            self.told(rows, turn((signs[0],), (signs[1],)), 3)

    def test_spare_names_that_the_row_itself_took_and_left(self):
        rows = [((name,), 1) for name in ("a", "b", "0", "d", "e")]
        wishes = turn(("a",), ("b",)) + pull(("0",), ("x",)) + turn(("d",), ("e",))
        self.told(rows, wishes, 7)
        rows = [((name,), 1) for name in ("a", "b", "c", "d", "e")]
        wishes = turn(("a",), ("b",)) + pull(("c",), ("0",)) + turn(("d",), ("e",))
        self.told(rows, wishes, 7)

    def test_spare_names_of_sixty_things_alike_in_a_blind_hall(self):
        names = [f"{k}" for k in range(20)] + [f"a{k}" for k in range(20)] + [f"X{k}" for k in range(20)]
        rows = [((name,), 1) for name in names]
        wishes = [((name,), (other.swapcase(),)) for name, other in zip(names, names[1:] + names[:1])]
        self.told(rows, wishes, 61, (True,))
        self.told(rows, turn(*[(name,) for name in names]), 61)

    def test_alike_names_that_exchange(self):
        self.told(LETTERS, [(("a",), ("B",)), (("b",), ("A",))], 3, (True,))
        self.told(LETTERS, [(("a",), ("B",)), (("b",), ("A",))], 2, (False,))
        self.told([(("a",), None), (("a", "x"), 1), (("A",), None)], turn(("a",), ("A",)), 3, (False,))

    def test_names_of_twelve_signs(self):
        names = ["abcdefghijkl", "abcdefghijkm", "abcdefghijkn", "ABCDEFGHIJK.", "____________"]
        rows = [((name,), number) for number, name in enumerate(names)]
        self.told(rows, turn(*[(name,) for name in names]), 6)
        rows = [(("d",), None), *[(("d", name), None) for name in names]]
        self.told(rows, turn(*[("d", name) for name in names]) + [(("d",), ("000000000000",))], 7)

    def test_paths_of_six_names(self):
        rows = [(SIX[:many], None) for many in range(1, 6)] + [(SIX, 1), (SIX[:5] + ("g",), 2)]
        swap = turn(SIX, SIX[:5] + ("g",))
        self.told(rows, swap, 3)
        for many in range(1, 6):
            self.told(rows, swap + [(SIX[:many], SIX[:many - 1] + ("other",))], 4)
        all_drawers = [(SIX[:many], SIX[:many - 1] + ("x" + SIX[many - 1],)) for many in range(1, 6)]
        self.told(rows, swap + all_drawers, 8)
        twins = [(SIX[:many - 1] + ("twin",), None) for many in range(1, 6)]
        turns = [wish for many in range(1, 6) for wish in turn(SIX[:many], SIX[:many - 1] + ("twin",))]
        self.told(rows + twins, swap + turns, 18)
        self.told(rows + [(("s",), 3)], turn(SIX, ("s",)) + all_drawers, 8)


class Answers(unittest.TestCase):
    """Whether handed rows do wishes, and how many moves more they have."""

    def does(self, rows, wishes, row, more, blinds=(False, True)):
        for blind in blinds:
            with self.subTest((wishes, row, blind)):
                hall = Hall(rows, blind)
                self.assertIs(does(hall, wishes, row), True)
                told = more_moves(hall, wishes, row)
                self.assertEqual(told, more)
                self.assertIs(type(told), int)
                self.assertEqual(hall.rows(), sorted(rows))

    def does_not(self, rows, wishes, row, blinds=(False, True)):
        for blind in blinds:
            with self.subTest((wishes, row, blind)):
                hall = Hall(rows, blind)
                self.assertIs(does(hall, wishes, row), False)
                self.assertIsNone(more_moves(hall, wishes, row))
                self.assertEqual(hall.rows(), sorted(rows))

    def test_the_empty_row(self):
        self.does(SOME, [], [], 0)
        self.does([], [], [], 0)
        self.does(SOME, [(path, path) for path, _ in SOME], [], 0)
        self.does_not(SOME, [(("note",), ("memo",))], [])

    def test_as_many_moves(self):
        self.does(SOME, [(("note",), ("memo",))], [(("note",), ("memo",))], 0)
        wishes = [(("desk",), ("table",)), (("note",), ("desk", "n"))]
        self.does(SOME, wishes, [(("desk",), ("table",)), (("note",), ("table", "n"))], 0)
        self.does(SOME, wishes, [(("note",), ("desk", "n")), (("desk",), ("table",))], 0)

    def test_more_moves(self):
        wishes = [(("note",), ("memo",))]
        self.does(SOME, wishes, [(("note",), ("x",)), (("x",), ("memo",))], 1)
        self.does(SOME, wishes, [(("note",), ("box", "x")), (("box", "x"), ("x",)), (("x",), ("memo",))], 2)
        many = [((f"n{k}",), (f"n{k + 1}",)) for k in range(88)]
        self.does(SOME, wishes, [(("note",), ("n0",)), *many, (("n88",), ("memo",))], 89)

    def test_a_wish_to_stay_counts_for_no_move(self):
        self.does(SOME, [(("note",), ("memo",)), (("box",), ("box",))], [(("note",), ("memo",))], 0)
        self.does(SOME, [(("box",), ("box",))], [(("box",), ("x",)), (("x",), ("box",))], 2)

    def test_rings(self):
        wishes = turn(("a",), ("b",))
        self.does(LETTERS, wishes, [(("a",), ("x",)), (("b",), ("a",)), (("x",), ("b",))], 1)
        self.does(LETTERS, wishes, [(("b",), ("x",)), (("a",), ("b",)), (("x",), ("a",))], 1)
        row = [(("b",), ("x",)), (("x",), ("y",)), (("a",), ("b",)), (("y",), ("a",))]
        self.does(LETTERS, wishes, row, 2)
        wishes = turn(("a",), ("b",)) + turn(("c",), ("d",))
        row = [
            (("a",), ("x",)), (("c",), ("y",)), (("d",), ("c",)), (("b",), ("a",)), (("y",), ("d",)), (("x",), ("b",)),
        ]
        self.does(LETTERS, wishes, row, 2)

    def test_rows_with_a_move_that_is_refused(self):
        wishes = [(("note",), ("memo",))]
        good = (("note",), ("memo",))
        for bad in (
            (("x",), ("y",)), (("note",), ("note",)), (("desk", "a"), ("x", "a")), (("box",), ("desk", "box")),
            (("desk", "a"), ("desk", "b")), (("Box",), ("box",)),
        ):
            self.does_not(SOME, wishes, [bad, good])
            self.does_not(SOME, wishes, [good, bad])
            self.does_not(SOME, [], [bad])
        self.does_not(LETTERS, turn(("a",), ("b",)), [(("a",), ("b",)), (("b",), ("a",))])

    def test_alike_names(self):
        wishes = [(("desk", "a"), ("x",))]
        row = [(("desk", "a"), ("NOTE",)), (("NOTE",), ("x",))]
        self.does(SOME, wishes, row, 1, (False,))
        self.does_not(SOME, wishes, row, (True,))
        self.does(SOME, [(("note",), ("NOTE",))], [(("note",), ("NOTE",))], 0)
        self.does_not(SOME, [(("note",), ("NOTE",))], [])
        self.does_not(SOME, [(("note",), ("NOTE",))], [(("note",), ("Note",))])
        self.does_not(SOME, [], [(("note",), ("NOTE",))])

    def test_things_exchanged_that_have_the_same_mark(self):
        rows = [(("a",), 5), (("b",), 5)]
        exchange = [(("a",), ("x",)), (("b",), ("a",)), (("x",), ("b",))]
        self.does_not(rows, [], exchange)
        self.does(rows, turn(("a",), ("b",)), exchange, 1)
        self.does_not(rows, turn(("a",), ("b",)), [])
        self.does_not(rows, [(("a",), ("c",))], [(("b",), ("c",)), (("a",), ("b",))])

    def test_empty_drawers_exchanged(self):
        rows = [(("a",), None), (("b",), None)]
        exchange = [(("a",), ("x",)), (("b",), ("a",)), (("x",), ("b",))]
        self.does_not(rows, [], exchange)
        self.does(rows, turn(("a",), ("b",)), exchange, 1)

    def test_drawers_exchanged_and_what_lies_in_them_back(self):
        rows = [(("p",), None), (("p", "x"), 1), (("q",), None), (("q", "x"), 1)]
        row = [(("p",), ("r",)), (("q",), ("p",)), (("r",), ("q",))]
        self.does(rows, turn(("p",), ("q",)), row, 1)
        self.does_not(rows, turn(("p",), ("q",)) + turn(("p", "x"), ("q", "x")), row)
        slips = [(("p", "x"), ("y",)), (("q", "x"), ("p", "x")), (("y",), ("q", "x"))]
        self.does(rows, turn(("p",), ("q",)) + turn(("p", "x"), ("q", "x")), row + slips, 2)
        self.does(rows, turn(("p",), ("q",)) + turn(("p", "x"), ("q", "x")), slips + row, 2)
        self.does_not(rows, [], row + slips)

    def test_rows_that_leave_a_thing_elsewhere(self):
        wishes = [(("note",), ("memo",))]
        self.does_not(SOME, wishes, [(("note",), ("memo",)), (("box",), ("case",))])
        self.does_not(SOME, wishes, [(("note",), ("memo",)), (("desk", "tax", "y24"), ("desk", "y24"))])
        self.does_not(SOME, wishes, [(("note",), ("desk", "memo"))])
        self.does_not(SOME, wishes, [(("note",), ("mem",))])
        self.does_not(SOME, wishes, [(("desk", "a"), ("memo",))])

    def test_things_that_are_not_wished_for_and_brought_back(self):
        wishes = [(("note",), ("memo",))]
        row = [(("box",), ("case",)), (("note",), ("memo",)), (("case",), ("box",))]
        self.does(SOME, wishes, row, 2)
        row = [(("desk",), ("table",)), (("table", "a"), ("a",)), (("table",), ("desk",)), (("a",), ("desk", "a"))]
        self.does(SOME, [], row, 4)

    def test_a_row_by_the_paths_of_now_for_a_drawer_that_is_called_otherwise(self):
        wishes = [(("desk",), ("table",)), (("desk", "a"), ("desk", "c"))]
        self.does_not(SOME, wishes, wishes)
        self.does(SOME, wishes, [(("desk",), ("table",)), (("table", "a"), ("table", "c"))], 0)


class Refused(unittest.TestCase):
    def refused(self, error, wishes, fields, blinds=(False, True)):
        for blind in blinds:
            hall = Hall(SOME, blind)
            rows = [[], [(("note",), ("memo",))], [(("x",), ("y",))]]
            asked = [lambda: row_for(hall, wishes)]
            asked += [lambda row=row: does(hall, wishes, row) for row in rows]
            asked += [lambda row=row: more_moves(hall, wishes, row) for row in rows]
            for ask in asked:
                with self.subTest((wishes, blind)):
                    with self.assertRaises(error) as caught:
                        ask()
                    self.assertEqual(error.__bases__, (HallError,))
                    for field, value in fields.items():
                        self.assertEqual(getattr(caught.exception, field), value)
                    self.assertEqual(hall.rows(), SOME)

    def test_no_wish(self):
        self.refused(NoWish, [(("x",), ("y",))], {"at": 0})
        self.refused(NoWish, [(("note",), ("memo",)), (("note",), ("memo",))], {"at": 1})
        self.refused(NoWish, [(("note",), ("memo",)), (("desk", "tax"), ("tax",))], {"at": 1})
        self.refused(NoWish, [(("note",), ("x", "y"))], {"at": 0})

    def test_meets(self):
        fields = {"one": ("desk", "a"), "other": ("note",), "place": ("note",)}
        self.refused(Meets, [(("desk", "a"), ("note",))], fields)
        fields = {"one": ("desk", "a"), "other": ("desk", "b"), "place": ("desk", "B")}
        self.refused(Meets, [(("desk", "a"), ("desk", "B"))], fields, (True,))

    def test_no_wish_ahead_of_meets(self):
        self.refused(NoWish, [(("desk", "a"), ("note",)), (("x",), ("y",))], {"at": 1})


class Lists(unittest.TestCase):
    def test_what_is_handed_in_stays(self):
        hall = Hall(SOME)
        wishes = [(("note",), ("desk", "a")), (("desk", "a"), ("note",)), (("desk",), ("table",))]
        before = list(wishes)
        row = row_for(hall, wishes)
        told = list(row)
        does(hall, wishes, row)
        more_moves(hall, wishes, row)
        self.assertEqual(row, told)
        self.assertEqual(wishes, before)
        self.assertEqual(hall.rows(), SOME)

    def test_a_told_row_may_be_changed(self):
        hall = Hall(SOME)
        wishes = [(("note",), ("memo",))]
        row = row_for(hall, wishes)
        self.assertEqual(row, [(("note",), ("memo",))])
        self.assertIsNot(row_for(hall, wishes), row)
        row.clear()
        self.assertEqual(row_for(hall, wishes), [(("note",), ("memo",))])
        self.assertEqual(wishes, [(("note",), ("memo",))])
        row_for(hall, []).append("x")
        self.assertEqual(row_for(hall, []), [])

    def test_later_deeds_change_no_told_row(self):
        hall = Hall(SOME)
        row = row_for(hall, [(("note",), ("memo",))])
        hall.drop(("note",))
        self.assertEqual(row, [(("note",), ("memo",))])


class ByNumbers(Rows):
    def test_many_wishes(self):
        for seed in range(600):
            chance = random.Random(seed)
            blind = seed % 2 == 1
            rows = some_rows(chance, blind, 14)
            self.held(rows, some_wishes(chance, rows, blind), blind)

    def test_many_wishes_with_names_that_could_serve_aside(self):
        for seed in range(300):
            chance = random.Random(seed)
            blind = seed % 2 == 1
            rows = some_rows(chance, blind, 18, names="012ab", depth=6)
            self.held(rows, some_wishes(chance, rows, blind, 60, "012ab"), blind)

    def test_great_halls(self):
        for seed in range(20):
            chance = random.Random(seed)
            blind = seed % 2 == 1
            rows = some_rows(chance, blind, 75, names="abcdefgABCDEFG0123", depth=6)[:60]
            rows = [row for row in rows if all((row[0][:k], None) in rows for k in range(1, len(row[0])))]
            self.held(rows, some_wishes(chance, rows, blind, 150, "abcdefgABCDEFG0123"), blind)

    def test_many_rows(self):
        done = 0
        for seed in range(1200):
            chance = random.Random(seed)
            blind = seed % 2 == 1
            rows = some_rows(chance, blind, 5, "abA", 2)
            wishes = some_wishes(chance, rows, blind, 2, "abA")
            row, then = some_moves(chance, rows, blind, chance.randrange(6), "abA")
            first = Model(rows, blind)
            wanted = then.lies == first.wish(wishes)
            hall = Hall(rows, blind)
            self.assertIs(does(hall, wishes, row), wanted, (seed, rows, wishes, row))
            moving = [path for path, place in wishes if path != place]
            self.assertEqual(more_moves(hall, wishes, row), len(row) - len(moving) if wanted else None)
            done += wanted
        self.assertGreater(done, 50)
        self.assertLess(done, 1150)


class Shortest(unittest.TestCase):
    """No row that does the wishes has fewer moves than the told one."""

    def fewest(self, rows, wishes, blind, names):
        """The moves of a shortest row, found by going through all of them."""
        first = Model(rows, blind)
        wanted = first.wish(wishes)
        drawers = [None, *[number for number, mark in enumerate(first.marks) if mark is None]]
        states = {tuple(first.lies)}
        edge = list(states)
        for many in itertools.count():
            if tuple(wanted) in states:
                return many
            later = []
            for state in edge:
                for number, drawer, name in itertools.product(range(len(rows)), drawers, names):
                    if first.marks[number] is None and drawer != state[number][0]:
                        continue
                    first.lies = list(state)
                    if first.takers(number, (drawer, name)):
                        continue
                    then = state[:number] + ((drawer, name),) + state[number + 1:]
                    if then not in states:
                        states.add(then)
                        later.append(then)
            edge = later

    def test_all_wishes_of_three_slips(self):
        rows = [(("a",), 1), (("b",), 1), (("c",), 2)]
        for blind in (False, True):
            for names in itertools.permutations("abcBx", 3):
                if blind and len({name.lower() for name in names}) < 3:
                    continue
                wishes = [(path, (name,)) for (path, _), name in zip(rows, names)]
                told = len(row_for(Hall(rows, blind), wishes))
                self.assertEqual(told, self.fewest(rows, wishes, blind, "abcBxy"), (names, blind))

    def test_drawers_and_slips(self):
        rows = [(("p",), None), (("q",), None), (("p", "q"), 1), (("q", "q"), 1)]
        for seed in range(40):
            chance = random.Random(seed)
            blind = seed % 2 == 1
            wishes = some_wishes(chance, rows, blind, 12, "pqP")
            told = len(row_for(Hall(rows, blind), wishes))
            self.assertEqual(told, self.fewest(rows, wishes, blind, "pqPx"), (seed, wishes))


if __name__ == "__main__":
    unittest.main()
