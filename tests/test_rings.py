"""Point 19: who stands behind whom, the rings and the chains; points 2, 15 and 16 where they speak of them."""

import itertools
import random
import unittest

from models import LETTERS, SOME, Model, pull, some_rows, some_wishes, turn
from renamehall.errors import HallError, Meets, NoWish
from renamehall.halls import Hall
from renamehall.rings import chains, rings


class Told(unittest.TestCase):
    def told(self, rows, wishes, its_rings, its_chains, blinds=(False, True)):
        for blind in blinds:
            hall = Hall(rows, blind)
            for some in (wishes, wishes[::-1]):
                with self.subTest((some, blind)):
                    self.assertEqual(rings(hall, some), its_rings)
                    self.assertEqual(chains(hall, some), its_chains)
                    self.assertEqual(hall.rows(), sorted(rows))


class Chains(Told):
    def test_no_wishes(self):
        self.told(SOME, [], [], [])
        self.told([], [], [], [])

    def test_wishes_for_the_place_where_the_thing_is(self):
        self.told(SOME, [(path, path) for path, _ in SOME], [], [])
        self.told(SOME, [(("desk",), ("desk",))], [], [])

    def test_a_chain_of_one(self):
        self.told(SOME, [(("note",), ("memo",))], [], [[("note",)]])
        self.told(SOME, [(("note",), ("box", "note"))], [], [[("note",)]])
        self.told(SOME, [(("desk",), ("table",))], [], [[("desk",)]])

    def test_a_chain_of_several(self):
        self.told(LETTERS, pull(("a",), ("b",), ("x",)), [], [[("a",), ("b",)]])
        self.told(LETTERS, pull(("c",), ("a",), ("h",), ("b",), ("x",)), [], [[("c",), ("a",), ("h",), ("b",)]])

    def test_chains_of_one_side_by_side_are_sorted(self):
        wishes = [(("c",), ("z",)), (("a",), ("y",)), (("b",), ("x",))]
        self.told(LETTERS, wishes, [], [[("a",)], [("b",)], [("c",)]])

    def test_chains_are_sorted_by_their_first_ones(self):
        wishes = pull(("d",), ("a",), ("x",)) + pull(("c",), ("b",), ("y",)) + pull(("e",), ("z",))
        self.told(LETTERS, wishes, [], [[("c",), ("b",)], [("d",), ("a",)], [("e",)]])

    def test_things_of_several_drawers(self):
        wishes = pull(("desk", "tax", "y24"), ("note",), ("desk", "a"), ("box", "a"))
        self.told(SOME, wishes, [], [[("desk", "tax", "y24"), ("note",), ("desk", "a")]])

    def test_a_thing_behind_a_drawer(self):
        wishes = [(("note",), ("desk",)), (("desk",), ("box",)), (("box",), ("case",))]
        self.told(SOME, wishes, [], [[("note",), ("desk",), ("box",)]])

    def test_a_thing_that_goes_into_a_drawer_does_not_stand_behind_it(self):
        wishes = [(("note",), ("desk", "note")), (("desk",), ("table",))]
        self.told(SOME, wishes, [], [[("desk",)], [("note",)]])

    def test_a_thing_in_a_drawer_that_is_called_otherwise_does_not_move(self):
        self.told(SOME, [(("desk",), ("table",)), (("desk", "a"), ("desk", "a"))], [], [[("desk",)]])

    def test_a_place_is_held_by_the_drawers_as_they_are_called_now(self):
        rows = [(("p",), None), (("p", "x"), 1), (("q",), None), (("q", "x"), 2)]
        wishes = [(("p",), ("q",)), (("q",), ("r",)), (("p", "x"), ("q", "x")), (("q", "x"), ("x",))]
        self.told(rows, wishes, [], [[("p",), ("q",)], [("p", "x"), ("q", "x")]])

    def test_a_wish_to_stay_is_no_part_of_a_chain(self):
        wishes = pull(("a",), ("b",), ("x",)) + [(("c",), ("c",))]
        self.told(LETTERS, wishes, [], [[("a",), ("b",)]])

    def test_sixty_things(self):
        rows = [((f"t{k:02}",), k) for k in range(60)]
        paths = [path for path, _ in rows]
        self.told(rows, pull(*paths, ("x",)), [], [paths])
        self.told(rows, [(path, ("u" + path[0],)) for path in paths], [], [[path] for path in paths])


class Rings(Told):
    def test_a_ring_of_two(self):
        self.told(LETTERS, turn(("a",), ("b",)), [[("a",), ("b",)]], [])
        self.told(SOME, turn(("note",), ("desk", "a")), [[("desk", "a"), ("note",)]], [])

    def test_a_ring_of_several_begins_with_its_least_path(self):
        self.told(LETTERS, turn(("c",), ("a",), ("b",)), [[("a",), ("b",), ("c",)]], [])
        self.told(LETTERS, turn(("c",), ("b",), ("a",)), [[("a",), ("c",), ("b",)]], [])
        order = [("d",), ("h",), ("a",), ("c",), ("f",)]
        self.told(LETTERS, turn(*order), [[("a",), ("c",), ("f",), ("d",), ("h",)]], [])

    def test_each_order_of_four(self):
        for order in itertools.permutations([("a",), ("b",), ("c",), ("d",)]):
            first = order.index(("a",))
            self.told(LETTERS, turn(*order), [[*order[first:], *order[:first]]], [])

    def test_several_rings_are_sorted(self):
        wishes = turn(("d",), ("c",)) + turn(("f",), ("b",)) + turn(("h",), ("e",), ("a",))
        self.told(LETTERS, wishes, [[("a",), ("h",), ("e",)], [("b",), ("f",)], [("c",), ("d",)]], [])

    def test_rings_and_chains(self):
        wishes = turn(("d",), ("c",)) + pull(("b",), ("a",), ("x",)) + turn(("g",), ("e",)) + pull(("h",), ("y",))
        self.told(LETTERS, wishes, [[("c",), ("d",)], [("e",), ("g",)]], [[("b",), ("a",)], [("h",)]])

    def test_drawers_that_exchange_names(self):
        self.told(SOME, turn(("desk",), ("box",)), [[("box",), ("desk",)]], [])

    def test_a_drawer_and_a_slip_that_exchange_names(self):
        self.told(SOME, turn(("desk",), ("note",)), [[("desk",), ("note",)]], [])

    def test_rings_of_drawers_with_rings_within_them(self):
        rows = [
            (("p",), None), (("p", "x"), None), (("p", "x", "k"), 1), (("p", "x", "l"), 2), (("p", "y"), 3),
            (("q",), None), (("q", "k"), 4),
        ]
        wishes = turn(("p",), ("q",)) + turn(("p", "x"), ("p", "y")) + turn(("p", "x", "k"), ("p", "x", "l"))
        self.told(rows, wishes, [[("p",), ("q",)], [("p", "x"), ("p", "y")], [("p", "x", "k"), ("p", "x", "l")]], [])

    def test_a_ring_through_a_drawer_and_what_lies_in_it(self):
        rows = [(("d",), None), (("d", "x"), 1), (("n",), 2)]
        self.told(rows, turn(("d",), ("n",), ("d", "x")), [[("d",), ("n",), ("d", "x")]], [])

    def test_paths_are_sorted_as_tuples(self):
        rows = [(("a",), None), (("a", "b"), 1), (("a-",), 2), (("b",), 3)]
        self.told(rows, turn(("a-",), ("a", "b")), [[("a", "b"), ("a-",)]], [])
        wishes = turn(("b",), ("a",), ("a-",), ("a", "b"))
        self.told(rows, wishes, [[("a",), ("a-",), ("a", "b"), ("b",)]], [])

    def test_sixty_things(self):
        rows = [((f"t{k:02}",), k) for k in range(60)]
        paths = [path for path, _ in rows]
        self.told(rows, turn(*paths), [paths], [])
        pairs = [[paths[k], paths[k + 1]] for k in range(0, 60, 2)]
        self.told(rows, [wish for pair in pairs for wish in turn(*pair)], pairs, [])


class Blind(Told):
    def test_a_name_alike_its_own_stands_behind_nothing(self):
        self.told(SOME, [(("note",), ("NOTE",))], [], [[("note",)]])
        self.told(SOME, [(("desk",), ("Desk",)), (("desk", "a"), ("desk", "A"))], [], [[("desk",)], [("desk", "a")]])

    def test_names_alike_stand_behind_each_other(self):
        self.told(LETTERS, [(("a",), ("B",)), (("b",), ("A",))], [[("a",), ("b",)]], [], (True,))
        self.told(LETTERS, [(("a",), ("B",)), (("b",), ("A",))], [], [[("a",)], [("b",)]], (False,))
        self.told(LETTERS, [(("b",), ("A",)), (("a",), ("x",))], [], [[("b",), ("a",)]], (True,))
        self.told(LETTERS, [(("b",), ("A",)), (("a",), ("x",))], [], [[("a",)], [("b",)]], (False,))

    def test_alike_names_that_lie_side_by_side(self):
        rows = [(("a",), 1), (("A",), 2)]
        self.told(rows, turn(("a",), ("A",)), [[("A",), ("a",)]], [], (False,))
        self.told(rows, pull(("a",), ("A",), ("x",)), [], [[("a",), ("A",)]], (False,))

    def test_drawers_are_held_sign_by_sign(self):
        rows = [(("p",), None), (("P",), None), (("p", "x"), 1), (("P", "x"), 2)]
        self.told(rows, turn(("p", "x"), ("P", "x")), [[("P", "x"), ("p", "x")]], [], (False,))


class Refused(unittest.TestCase):
    def refused(self, error, rows, wishes, fields, blinds=(False, True)):
        for blind in blinds:
            hall = Hall(rows, blind)
            for asked in (rings, chains):
                with self.subTest((asked.__name__, wishes, blind)):
                    with self.assertRaises(error) as caught:
                        asked(hall, wishes)
                    self.assertEqual(error.__bases__, (HallError,))
                    for field, value in fields.items():
                        self.assertEqual(getattr(caught.exception, field), value)
                    self.assertEqual(hall.rows(), sorted(rows))

    def test_no_wish(self):
        self.refused(NoWish, SOME, [(("x",), ("y",))], {"at": 0})
        self.refused(NoWish, SOME, [(("note",), ("y",)), (("note",), ("z",))], {"at": 1})
        self.refused(NoWish, SOME, [(("note",), ("y",)), (("box",), ("desk", "box"))], {"at": 1})
        self.refused(NoWish, SOME, [(("note",), ("x", "y"))], {"at": 0})
        self.refused(NoWish, SOME, [(("NOTE",), ("memo",))], {"at": 0})

    def test_meets(self):
        fields = {"one": ("desk", "a"), "other": ("note",), "place": ("note",)}
        self.refused(Meets, SOME, [(("desk", "a"), ("note",))], fields)
        fields = {"one": ("desk", "a"), "other": ("note",), "place": ("NOTE",)}
        self.refused(Meets, SOME, [(("desk", "a"), ("NOTE",))], fields, (True,))
        fields = {"one": ("desk", "a"), "other": ("note",), "place": ("x",)}
        self.refused(Meets, SOME, [(("note",), ("x",)), (("desk", "a"), ("x",))], fields)

    def test_no_wish_ahead_of_meets(self):
        self.refused(NoWish, SOME, [(("desk", "a"), ("note",)), (("x",), ("y",))], {"at": 1})


class Lists(unittest.TestCase):
    def test_told_lists_are_new_ones(self):
        hall = Hall(LETTERS)
        wishes = turn(("a",), ("b",)) + pull(("c",), ("d",), ("x",))
        for asked, wanted in ((rings, [[("a",), ("b",)]]), (chains, [[("c",), ("d",)]])):
            told = asked(hall, wishes)
            again = asked(hall, wishes)
            self.assertIsNot(told, again)
            self.assertIsNot(told[0], again[0])
            told[0].clear()
            told.clear()
            self.assertEqual(again, wanted)
            self.assertEqual(asked(hall, wishes), wanted)
            self.assertIs(type(again), list)
            self.assertIs(type(again[0]), list)

    def test_later_deeds_change_no_told_list(self):
        hall = Hall(LETTERS)
        told = rings(hall, turn(("a",), ("b",)))
        hall.drop(("a",))
        self.assertEqual(told, [[("a",), ("b",)]])

    def test_handed_wishes_stay_as_they_are(self):
        hall = Hall(LETTERS)
        wishes = turn(("c",), ("a",)) + pull(("b",), ("d",), ("x",))
        before = list(wishes)
        rings(hall, wishes)
        chains(hall, wishes)
        self.assertEqual(wishes, before)
        self.assertEqual(hall.rows(), LETTERS)

    def test_the_hall_is_asked_as_it_is(self):
        hall = Hall(LETTERS)
        wishes = [(("a",), ("x",))]
        self.assertEqual(chains(hall, wishes), [[("a",)]])
        hall.put(("x",), 9)
        self.assertRaises(Meets, chains, hall, wishes)
        self.assertEqual(chains(hall, wishes + [(("x",), ("y",))]), [[("a",), ("x",)]])


class ByNumbers(unittest.TestCase):
    def test_many_wishes(self):
        with_rings = 0
        for seed in range(800):
            chance = random.Random(seed)
            blind = seed % 2 == 1
            rows = some_rows(chance, blind, 14)
            wishes = some_wishes(chance, rows, blind)
            hall = Hall(rows, blind)
            wanted = Model(rows, blind).rings_and_chains(wishes)
            self.assertEqual((rings(hall, wishes), chains(hall, wishes)), wanted, (seed, rows, wishes))
            with_rings += wanted[0] != []
        self.assertGreater(with_rings, 100)

    def test_all_wishes_of_three_slips(self):
        rows = [(("a",), 1), (("b",), 2), (("c",), 3)]
        for blind in (False, True):
            hall = Hall(rows, blind)
            for names in itertools.permutations("abcABx", 3):
                if blind and len({name.lower() for name in names}) < 3:
                    continue
                wishes = [(path, (name,)) for (path, _), name in zip(rows, names)]
                wanted = Model(rows, blind).rings_and_chains(wishes)
                self.assertEqual((rings(hall, wishes), chains(hall, wishes)), wanted, (names, blind))


if __name__ == "__main__":
    unittest.main()
