"""The refusals: their classes, what they are made of, and their fields."""

import inspect
import unittest

from renamehall import errors

FIELDS = {
    "NoPattern": ("at",),
    "NoTemplate": ("at",),
    "NoHall": ("at",),
    "NoThing": ("path",),
    "NoDrawer": ("path",),
    "Taken": ("path",),
    "Fixed": ("path",),
    "NotEmpty": ("path",),
    "NoWish": ("at",),
    "Meets": ("one", "other", "place"),
    "NoPlace": ("path", "texts"),
    "Broken": ("at",),
    "Strayed": ("at",),
    "NoText": ("line",),
}
MADE_OF_A_TEXT = ("NoRule", "Full", "NoBook", "NoSame", "TooMuch", "NoLine", "Busy", "NoDoer", "NoRules")
VALUES = {
    "at": 7,
    "line": 3,
    "path": ("desk", "Tax"),
    "one": ("a", "b"),
    "other": ("c",),
    "place": ("d", "e"),
    "texts": ("x", "no name"),
}


def class_called(name):
    return getattr(errors, name)


def made(name):
    if name in FIELDS:
        return class_called(name)(*[VALUES[field] for field in FIELDS[name]])
    return class_called(name)("some words")


class Classes(unittest.TestCase):
    def test_the_base_is_a_value_error(self):
        self.assertEqual(errors.HallError.__bases__, (ValueError,))
        with self.assertRaises(errors.HallError):
            raise errors.HallError("some words")

    def test_each_stands_straight_under_the_base(self):
        for name in [*FIELDS, *MADE_OF_A_TEXT]:
            with self.subTest(name):
                self.assertEqual(class_called(name).__bases__, (errors.HallError,))

    def test_none_stands_under_another_one(self):
        names = [*FIELDS, *MADE_OF_A_TEXT]
        self.assertEqual(len(names), 23)
        for one in names:
            for other in names:
                with self.subTest(one=one, other=other):
                    under = issubclass(class_called(one), class_called(other))
                    self.assertEqual(under, one == other)

    def test_there_are_no_others(self):
        found = [name for name, _ in inspect.getmembers(errors, inspect.isclass)]
        self.assertEqual(sorted(found), sorted(["HallError", *FIELDS, *MADE_OF_A_TEXT]))


class Fields(unittest.TestCase):
    def test_the_things_named_are_kept(self):
        for name, fields in FIELDS.items():
            refusal = made(name)
            for field in fields:
                with self.subTest(name=name, field=field):
                    self.assertEqual(getattr(refusal, field), VALUES[field])

    def test_nothing_else_is_kept(self):
        for name, fields in FIELDS.items():
            with self.subTest(name):
                self.assertEqual(sorted(vars(made(name))), sorted(fields))

    def test_things_are_handed_in_by_their_places(self):
        meets = errors.Meets(("a",), ("b",), ("c",))
        self.assertEqual((meets.one, meets.other, meets.place), (("a",), ("b",), ("c",)))
        no_place = errors.NoPlace(("a",), ("b c",))
        self.assertEqual((no_place.path, no_place.texts), (("a",), ("b c",)))

    def test_edges_of_the_fields(self):
        self.assertEqual(errors.NoPattern(0).at, 0)
        self.assertEqual(errors.NoDrawer(()).path, ())
        self.assertEqual(errors.NoText(0).line, 0)

    def test_another_one_that_is_made_changes_nothing(self):
        first = errors.Broken(1)
        errors.Broken(2)
        self.assertEqual(first.at, 1)

    def test_made_of_a_text(self):
        for name in MADE_OF_A_TEXT:
            with self.subTest(name):
                refusal = made(name)
                self.assertEqual(str(refusal), "some words")
                self.assertEqual(vars(refusal), {})


class Raised(unittest.TestCase):
    def test_each_is_taken_by_its_name_and_by_both_bases(self):
        for name in [*FIELDS, *MADE_OF_A_TEXT]:
            for taken in (class_called(name), errors.HallError, ValueError):
                with self.subTest(name=name, taken=taken):
                    with self.assertRaises(taken):
                        raise made(name)

    def test_each_has_words(self):
        for name in [*FIELDS, *MADE_OF_A_TEXT]:
            with self.subTest(name):
                self.assertNotEqual(str(made(name)), "")


if __name__ == "__main__":
    unittest.main()
