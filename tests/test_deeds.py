"""Points 12, 13 and 14: what is put into a hall, dropped and moved; point 2 where it speaks of refused deeds."""

import random
import unittest

from renamehall.errors import Fixed, Full, HallError, NoDrawer, NoThing, NotEmpty, Taken
from renamehall.halls import Hall

SOME = [
    (("box",), None),
    (("desk",), None),
    (("desk", "a"), 0),
    (("desk", "tax"), None),
    (("desk", "tax", "y24"), 24),
    (("note",), 7),
]


class Deeds(unittest.TestCase):
    def hall(self, blind=False):
        return Hall(SOME, blind)

    def done(self, hall, deed, *things):
        self.assertIsNone(getattr(hall, deed)(*things))

    def refused(self, error, path, deed, *things, hall=None, blinds=(False, True)):
        """The deed is refused with that class and field, and changes nothing."""
        for asked in [hall] if hall else [self.hall(blind) for blind in blinds]:
            with self.subTest((deed, things, asked.is_blind())):
                rows = asked.rows()
                with self.assertRaises(error) as caught:
                    getattr(asked, deed)(*things)
                self.assertEqual(type(caught.exception), error)
                self.assertEqual(error.__bases__, (HallError,))
                if path is not None:
                    self.assertEqual(caught.exception.path, path)
                self.assertEqual(asked.rows(), rows)


class Put(Deeds):
    def test_done(self):
        for blind in (False, True):
            hall = self.hall(blind)
            self.done(hall, "put", ("new",), 3)
            self.done(hall, "put", ("box", "in"), None)
            self.done(hall, "put", ("box", "in", "it"), 0)
            self.done(hall, "put", ("desk", "note"), 10 ** 9)
            added = [(("new",), 3), (("box", "in"), None), (("box", "in", "it"), 0), (("desk", "note"), 10 ** 9)]
            self.assertEqual(hall.rows(), sorted(SOME + added))
            self.assertEqual(hall.names_in(("box", "in")), ["it"])
            self.assertIs(hall.is_drawer(("box", "in")), True)

    def test_six_deep(self):
        hall = Hall([])
        for many in range(1, 7):
            self.done(hall, "put", ("a", "b", "c", "d", "e", "f")[:many], None)
        self.assertEqual(len(hall.rows()), 6)

    def test_no_drawer(self):
        self.refused(NoDrawer, ("x",), "put", ("x", "y"), 1)
        self.refused(NoDrawer, ("x", "y"), "put", ("x", "y", "z"), None)
        self.refused(NoDrawer, ("desk", "x"), "put", ("desk", "x", "y"), 1)
        self.refused(NoDrawer, ("note",), "put", ("note", "x"), 1)
        self.refused(NoDrawer, ("note", "x"), "put", ("note", "x", "y"), 1)

    def test_a_drawer_alike_is_none(self):
        self.refused(NoDrawer, ("Desk",), "put", ("Desk", "x"), 1)
        self.refused(NoDrawer, ("Desk",), "put", ("Desk", "a"), 1)
        self.refused(NoDrawer, ("desk", "TAX"), "put", ("desk", "TAX", "x"), 1)

    def test_taken(self):
        for mark in (None, 7):
            self.refused(Taken, ("note",), "put", ("note",), mark)
            self.refused(Taken, ("desk",), "put", ("desk",), mark)
            self.refused(Taken, ("desk", "tax", "y24"), "put", ("desk", "tax", "y24"), mark)

    def test_taken_by_a_name_alike(self):
        self.refused(Taken, ("note",), "put", ("NOTE",), 7, blinds=(True,))
        self.refused(Taken, ("desk", "tax", "y24"), "put", ("desk", "tax", "Y24"), 7, blinds=(True,))
        hall = self.hall()
        self.done(hall, "put", ("NOTE",), 7)
        self.assertEqual(hall.names_in(()), ["NOTE", "box", "desk", "note"])

    def test_full(self):
        for blind in (False, True):
            hall = Hall([((f"t{k}",), k) for k in range(58)] + [(("d",), None)], blind)
            self.done(hall, "put", ("d", "last"), 1)
            self.assertEqual(len(hall.rows()), 60)
            self.refused(Full, None, "put", ("d", "more"), 1, hall=hall)
            self.refused(Full, None, "put", ("more",), None, hall=hall)
            self.done(hall, "drop", ("t0",))
            self.done(hall, "put", ("more",), None)
            self.refused(Full, None, "put", ("t0",), 1, hall=hall)

    def test_the_refusal_that_is_named_first(self):
        hall = Hall([((f"t{k}",), k) for k in range(60)], True)
        self.refused(NoDrawer, ("x",), "put", ("x", "y"), 1, hall=hall)
        self.refused(NoDrawer, ("t1",), "put", ("t1", "y"), 1, hall=hall)
        self.refused(Taken, ("t1",), "put", ("T1",), 1, hall=hall)
        self.refused(Taken, ("t1",), "put", ("t1",), 1, hall=hall)

    def test_a_place_becomes_free_and_is_taken_again(self):
        hall = self.hall(True)
        self.done(hall, "drop", ("note",))
        self.done(hall, "put", ("NOTE",), None)
        self.refused(Taken, ("NOTE",), "put", ("note",), 7, hall=hall)


class Drop(Deeds):
    def test_done(self):
        for blind in (False, True):
            hall = self.hall(blind)
            for path in (("note",), ("box",), ("desk", "tax", "y24"), ("desk", "tax"), ("desk", "a"), ("desk",)):
                self.done(hall, "drop", path)
                self.assertIsNone(hall.there(path))
            self.assertEqual(hall.rows(), [])

    def test_only_that_thing_goes(self):
        for path, mark in SOME:
            if path not in (("desk",), ("desk", "tax")):
                hall = self.hall()
                self.done(hall, "drop", path)
                self.assertEqual(hall.rows(), [row for row in SOME if row != (path, mark)])

    def test_no_thing(self):
        for path in (("x",), ("Note",), ("BOX",), ("desk", "A"), ("Desk", "a"), ("note", "x"), ("x", "y"), ("tax",)):
            self.refused(NoThing, path, "drop", path)

    def test_not_empty(self):
        self.refused(NotEmpty, ("desk",), "drop", ("desk",))
        self.refused(NotEmpty, ("desk", "tax"), "drop", ("desk", "tax"))

    def test_a_drawer_beside_one_that_begins_like_it(self):
        hall = Hall([(("a",), None), (("ab",), None), (("ab", "c"), 1)])
        self.done(hall, "drop", ("a",))
        self.assertEqual(hall.rows(), [(("ab",), None), (("ab", "c"), 1)])

    def test_twice(self):
        hall = self.hall()
        self.done(hall, "drop", ("note",))
        self.refused(NoThing, ("note",), "drop", ("note",), hall=hall)


class Move(Deeds):
    def moved(self, path, place, rows, blinds=(False, True)):
        for blind in blinds:
            with self.subTest((path, place, blind)):
                hall = self.hall(blind)
                self.done(hall, "move", path, place)
                self.assertEqual(hall.rows(), sorted(rows))
                self.assertIs(hall.is_blind(), blind)

    def but(self, *pairs):
        """The rows with other paths for some."""
        paths = dict(pairs)
        return [(paths.get(path, path), mark) for path, mark in SOME]

    def test_a_slip_to_another_name(self):
        self.moved(("note",), ("memo",), self.but((("note",), ("memo",))))
        self.moved(("desk", "a"), ("desk", "b"), self.but((("desk", "a"), ("desk", "b"))))

    def test_a_slip_to_another_drawer(self):
        self.moved(("note",), ("box", "note"), self.but((("note",), ("box", "note"))))
        self.moved(("desk", "a"), ("a",), self.but((("desk", "a"), ("a",))))
        self.moved(("desk", "tax", "y24"), ("desk", "x"), self.but((("desk", "tax", "y24"), ("desk", "x"))))
        self.moved(("note",), ("desk", "tax", "n"), self.but((("note",), ("desk", "tax", "n"))))

    def test_an_empty_drawer(self):
        self.moved(("box",), ("case",), self.but((("box",), ("case",))))

    def test_a_drawer_with_all_that_lies_in_it(self):
        self.moved(("desk", "tax"), ("desk", "t"), self.but(
            (("desk", "tax"), ("desk", "t")),
            (("desk", "tax", "y24"), ("desk", "t", "y24")),
        ))
        self.moved(("desk",), ("table",), self.but(
            (("desk",), ("table",)),
            (("desk", "a"), ("table", "a")),
            (("desk", "tax"), ("table", "tax")),
            (("desk", "tax", "y24"), ("table", "tax", "y24")),
        ))

    def test_a_drawer_six_deep(self):
        names = ("a", "a", "a", "a", "a", "a")
        rows = [(names[:many], None if many < 6 else 4) for many in range(1, 7)]
        for at in range(5):
            hall = Hall(rows)
            self.done(hall, "move", names[:at + 1], names[:at] + ("b",))
            wanted = [path if len(path) <= at else path[:at] + ("b",) + path[at + 1:] for path, _ in rows]
            self.assertEqual([path for path, _ in hall.rows()], sorted(wanted))
            self.assertEqual(hall.mark_of(names[:at] + ("b",) + names[at + 1:]), 4)

    def test_a_drawer_beside_one_that_begins_like_it(self):
        hall = Hall([(("a",), None), (("ab",), None), (("ab", "c"), 1), (("a", "c"), 2)])
        self.done(hall, "move", ("a",), ("x",))
        self.assertEqual(hall.rows(), [(("ab",), None), (("ab", "c"), 1), (("x",), None), (("x", "c"), 2)])

    def test_a_name_that_is_a_drawers_too_elsewhere(self):
        hall = Hall([(("a",), None), (("b",), None), (("b", "a"), None), (("b", "a", "a"), 1), (("a", "a"), 2)])
        self.done(hall, "move", ("a",), ("c",))
        rows = [(("b",), None), (("b", "a"), None), (("b", "a", "a"), 1), (("c",), None), (("c", "a"), 2)]
        self.assertEqual(hall.rows(), rows)

    def test_a_name_alike_its_own(self):
        self.moved(("note",), ("NOTE",), self.but((("note",), ("NOTE",))))
        self.moved(("desk", "a"), ("desk", "A"), self.but((("desk", "a"), ("desk", "A"))))
        self.moved(("desk", "tax"), ("desk", "Tax"), self.but(
            (("desk", "tax"), ("desk", "Tax")),
            (("desk", "tax", "y24"), ("desk", "Tax", "y24")),
        ))

    def test_a_name_alike_its_own_in_another_drawer(self):
        self.moved(("note",), ("box", "Note"), self.but((("note",), ("box", "Note"))))

    def test_names_alike_where_the_hall_is_not_blind(self):
        hall = Hall([(("a",), 1), (("b",), 2)])
        self.done(hall, "move", ("b",), ("A",))
        self.assertEqual(hall.rows(), [(("A",), 2), (("a",), 1)])

    def test_the_row_of_an_exchange(self):
        hall = Hall([(("a",), 1), (("b",), 2)])
        self.done(hall, "move", ("a",), ("c",))
        self.done(hall, "move", ("b",), ("a",))
        self.done(hall, "move", ("c",), ("b",))
        self.assertEqual(hall.rows(), [(("a",), 2), (("b",), 1)])

    def test_a_thing_in_a_drawer_that_was_moved(self):
        hall = self.hall()
        self.done(hall, "move", ("desk",), ("table",))
        self.refused(NoThing, ("desk", "a"), "move", ("desk", "a"), ("a",), hall=hall)
        self.refused(NoDrawer, ("desk",), "move", ("note",), ("desk", "note"), hall=hall)
        self.done(hall, "move", ("table", "a"), ("a",))
        self.done(hall, "move", ("note",), ("table", "tax", "note"))
        self.assertEqual(hall.names_in(("table", "tax")), ["note", "y24"])

    def test_sixty_things_are_moved(self):
        hall = Hall([(("d", f"t{k}"), k) for k in range(59)] + [(("d",), None)])
        self.done(hall, "move", ("d",), ("e",))
        self.done(hall, "move", ("e", "t0"), ("e", "t59"))
        self.assertEqual(len(hall.rows()), 60)
        self.assertEqual(hall.mark_of(("e", "t59")), 0)

    def test_no_thing(self):
        for path in (("x",), ("Note",), ("desk", "A"), ("Desk",), ("Desk", "a"), ("note", "x"), ("tax",)):
            self.refused(NoThing, path, "move", path, ("new",))
            self.refused(NoThing, path, "move", path, path)

    def test_no_drawer(self):
        self.refused(NoDrawer, ("x",), "move", ("note",), ("x", "note"))
        self.refused(NoDrawer, ("x", "y"), "move", ("note",), ("x", "y", "note"))
        self.refused(NoDrawer, ("Desk",), "move", ("note",), ("Desk", "note"))
        self.refused(NoDrawer, ("note",), "move", ("desk", "a"), ("note", "a"))
        self.refused(NoDrawer, ("note",), "move", ("note",), ("note", "a"))
        self.refused(NoDrawer, ("x",), "move", ("desk",), ("x", "desk"))

    def test_fixed(self):
        self.refused(Fixed, ("box",), "move", ("box",), ("desk", "box"))
        self.refused(Fixed, ("desk", "tax"), "move", ("desk", "tax"), ("tax",))
        self.refused(Fixed, ("desk", "tax"), "move", ("desk", "tax"), ("box", "tax"))
        self.refused(Fixed, ("desk",), "move", ("desk",), ("desk", "desk"))
        self.refused(Fixed, ("desk",), "move", ("desk",), ("desk", "tax", "desk"))

    def test_taken(self):
        self.refused(Taken, ("note",), "move", ("desk", "a"), ("note",))
        self.refused(Taken, ("desk",), "move", ("note",), ("desk",))
        self.refused(Taken, ("desk",), "move", ("box",), ("desk",))
        self.refused(Taken, ("desk", "a"), "move", ("desk", "tax"), ("desk", "a"))
        self.refused(Taken, ("desk", "a"), "move", ("desk", "tax", "y24"), ("desk", "a"))

    def test_taken_by_a_name_alike(self):
        self.refused(Taken, ("note",), "move", ("desk", "a"), ("NOTE",), blinds=(True,))
        self.refused(Taken, ("desk",), "move", ("box",), ("Desk",), blinds=(True,))
        self.refused(Taken, ("desk", "a"), "move", ("desk", "tax"), ("desk", "A"), blinds=(True,))

    def test_the_very_path(self):
        for path, _ in SOME:
            self.refused(Taken, path, "move", path, path)

    def test_the_refusal_that_is_named_first(self):
        self.refused(NoThing, ("x",), "move", ("x",), ("y", "z"))
        self.refused(NoThing, ("x",), "move", ("x",), ("note",))
        self.refused(NoThing, ("NOTE",), "move", ("NOTE",), ("note",))
        self.refused(NoDrawer, ("y",), "move", ("box",), ("y", "z"))
        self.refused(Fixed, ("box",), "move", ("box",), ("desk", "a"))
        self.refused(Fixed, ("desk", "tax"), "move", ("desk", "tax"), ("note",))


class Model:
    """A hall by another road than the program's: things with numbers, each in a drawer that is one of them."""

    def __init__(self, blind):
        self.blind = blind
        self.things = {}

    def path(self, number):
        return () if number == 0 else self.path(self.things[number][0]) + (self.things[number][1],)

    def number(self, path):
        return next((n for n in [0, *self.things] if self.path(n) == path), None)

    def drawer(self, path):
        number = self.number(path)
        if number is None or (number and self.things[number][2] is not None):
            raise NoDrawer(path)
        return number

    def at(self, drawer, name):
        for number, (parent, other, _) in self.things.items():
            if parent == drawer and (other == name or (self.blind and other.lower() == name.lower())):
                return number
        return None

    def thing(self, path):
        number = self.number(path)
        if number is None:
            raise NoThing(path)
        return number

    def put(self, path, mark):
        drawer = self.drawer(path[:-1])
        other = self.at(drawer, path[-1])
        if other is not None:
            raise Taken(self.path(other))
        self.things[max([0, *self.things]) + 1] = (drawer, path[-1], mark)

    def drop(self, path):
        number = self.thing(path)
        if any(parent == number for parent, _, _ in self.things.values()):
            raise NotEmpty(path)
        del self.things[number]

    def move(self, path, place):
        number = self.thing(path)
        parent, name, mark = self.things[number]
        drawer = self.drawer(place[:-1])
        if mark is None and drawer != parent:
            raise Fixed(path)
        other = self.at(drawer, place[-1])
        if other is not None and (other != number or name == place[-1]):
            raise Taken(self.path(other))
        self.things[number] = (drawer, place[-1], mark)

    def rows(self):
        return sorted((self.path(number), thing[2]) for number, thing in self.things.items())


class AgainstTheModel(unittest.TestCase):
    def deed(self, chance):
        def path():
            return tuple(chance.choice("abAB") for _ in range(chance.randint(1, 3)))

        name = chance.choice(["put", "put", "drop", "move", "move", "move", "move"])
        if name == "put":
            return name, (path(), chance.choice([None, None, 0, 1]))
        return name, (path(),) if name == "drop" else (path(), path())

    def answer(self, hall, name, things):
        try:
            getattr(hall, name)(*things)
        except HallError as refusal:
            return type(refusal), refusal.path
        return None

    def test_many_deeds(self):
        seen = set()
        for seed in range(40):
            chance = random.Random(seed)
            blind = seed % 2 == 1
            hall, model = Hall([], blind), Model(blind)
            for _ in range(150):
                name, things = self.deed(chance)
                answer = self.answer(model, name, things)
                self.assertEqual(self.answer(hall, name, things), answer, (seed, name, things))
                self.assertEqual(hall.rows(), model.rows(), (seed, name, things))
                self.assertEqual(Hall(hall.rows(), blind).rows(), model.rows())
                seen.add((name, answer and answer[0]))
        wanted = {("put", None), ("put", NoDrawer), ("put", Taken), ("drop", None), ("drop", NoThing)}
        wanted |= {("drop", NotEmpty), ("move", None), ("move", NoThing), ("move", NoDrawer), ("move", Fixed)}
        self.assertEqual(seen, wanted | {("move", Taken)})


if __name__ == "__main__":
    unittest.main()
