"""Point 4: names, alike names, and paths; point 2 where it speaks of them."""

import itertools
import re
import string
import unittest

from renamehall.names import alike, is_name, read_path, show_path

NAME_SIGNS = string.ascii_letters + string.digits + "-_."
ALL_SIGNS = [chr(code) for code in range(32, 127)] + ["\n"]
OTHER_SIGNS = [sign for sign in ALL_SIGNS if sign not in NAME_SIGNS]


class Names(unittest.TestCase):
    def test_lengths(self):
        self.assertIs(is_name(""), False)
        for many in range(1, 13):
            with self.subTest(many):
                self.assertIs(is_name("a" * many), True)
        for many in (13, 14, 24, 5405):
            with self.subTest(many):
                self.assertIs(is_name("a" * many), False)

    def test_lengths_with_all_sorts_of_signs(self):
        self.assertIs(is_name("aZ09-_.bY18-"), True)
        self.assertIs(is_name("aZ09-_.bY18-_"), False)

    def test_each_name_sign(self):
        self.assertEqual(len(NAME_SIGNS), 65)
        for sign in NAME_SIGNS:
            with self.subTest(sign):
                self.assertIs(is_name(sign), True)
                self.assertIs(is_name(sign * 12), True)
                self.assertIs(is_name("a" + sign + "b"), True)

    def test_signs_that_are_none(self):
        for sign in [*OTHER_SIGNS, "\t", "\r"]:
            for text in (sign, sign + "ab", "a" + sign + "b", "ab" + sign):
                with self.subTest(text):
                    self.assertIs(is_name(text), False)

    def test_the_named_signs_that_are_none(self):
        for sign in (" ", "/", "*", "?", "#", "@", "~", "\n", "{", "}", ","):
            with self.subTest(sign):
                self.assertIs(is_name("a" + sign), False)

    def test_letters_of_other_alphabets_are_none(self):
        for sign in ("\u00e9", "\u00b2", "\u0660", "\u017f", "\u212a"):
            with self.subTest(sign):
                self.assertIs(is_name(sign), False)

    def test_names_that_look_odd(self):
        for text in (".", "..", "-", "_", "__init__", "0", "...---___"):
            with self.subTest(text):
                self.assertIs(is_name(text), True)


class Alike(unittest.TestCase):
    def told(self, one, other, wanted):
        with self.subTest(one=one, other=other):
            self.assertIs(alike(one, other), wanted)
            self.assertIs(alike(other, one), wanted)

    def test_the_same_but_for_great_and_small(self):
        self.told("tax", "TAX", True)
        self.told("tAx", "TaX", True)
        self.told("a1-B_.c", "A1-b_.C", True)
        self.told(string.ascii_lowercase[:12], string.ascii_uppercase[:12], True)

    def test_a_name_and_itself(self):
        for name in ("a", "Z", "0", "-", "_", ".", "aZ09-_.bY18-"):
            self.told(name, name, True)

    def test_names_that_differ_in_another_sign(self):
        self.told("tax", "tay", False)
        self.told("tax", "TAY", False)
        self.told("tax1", "tax2", False)
        self.told("a-b", "a_b", False)
        self.told("a.b", "a-b", False)

    def test_names_of_unlike_lengths(self):
        self.told("tax", "taxe", False)
        self.told("a", "aa", False)
        self.told("Ab", "b", False)

    def test_the_same_signs_in_another_order(self):
        self.told("ab", "ba", False)
        self.told("ab", "BA", False)

    def test_every_two_signs(self):
        for one in NAME_SIGNS:
            for other in NAME_SIGNS:
                both_cases = one.isalpha() and one.swapcase() == other
                self.told("x" + one, "X" + other, one == other or both_cases)


class Paths(unittest.TestCase):
    def written(self, path, text):
        with self.subTest(text):
            self.assertEqual(show_path(path), text)
            read = read_path(text)
            self.assertEqual(read, path)
            self.assertIsInstance(read, tuple)
            for name in read:
                self.assertIsInstance(name, str)

    def test_paths_of_one_to_six_names(self):
        names = ("desk", "Tax", "2024", "a-b_c.d", ".", "aZ09-_.bY18-")
        for many in range(1, 7):
            self.written(names[:many], "/".join(names[:many]))

    def test_written_paths(self):
        self.written(("a",), "a")
        self.written(("desk", "tax", "a"), "desk/tax/a")
        self.written(("a", "b", "c", "d", "e", "f"), "a/b/c/d/e/f")
        self.written(("abcdefghijkl",) * 6, "abcdefghijkl/" * 5 + "abcdefghijkl")
        self.written(("a", "a"), "a/a")
        self.written(("..", "A"), "../A")

    def refused(self, text):
        with self.subTest(text):
            self.assertIs(read_path(text), None)

    def test_the_text_without_signs(self):
        self.refused("")

    def test_strokes_that_part_nothing(self):
        for text in ("/", "//", "/a", "a/", "/a/b", "a/b/", "a//b", "a///b", "/a/"):
            self.refused(text)

    def test_names_that_are_too_long(self):
        self.refused("abcdefghijklm")
        self.refused("abcdefghijklm/a")
        self.refused("a/abcdefghijklm")
        self.refused("a/abcdefghijklm/b")
        self.refused("a" * 5405)

    def test_signs_that_are_no_name_signs(self):
        for sign in OTHER_SIGNS:
            if sign != "/":
                for text in (sign, sign + "a/b", "a" + sign + "/b", "a/" + sign + "b", "a/b" + sign):
                    self.refused(text)

    def test_more_than_six_names(self):
        self.refused("a/b/c/d/e/f/g")
        self.refused("a/b/c/d/e/f/")
        self.refused("a/" * 60 + "a")

    def test_every_short_text(self):
        form = re.compile(r"[A-Za-z0-9._-]{1,12}(/[A-Za-z0-9._-]{1,12}){0,5}")
        for many in range(6):
            for signs in itertools.product("aB/ *", repeat=many):
                text = "".join(signs)
                wanted = tuple(text.split("/")) if form.fullmatch(text) else None
                with self.subTest(text):
                    self.assertEqual(read_path(text), wanted)

    def test_nothing_hangs_on_what_was_asked_before(self):
        first = read_path("a/b")
        self.assertIs(read_path("a//b"), None)
        self.assertEqual(read_path("c"), ("c",))
        self.assertEqual(read_path("a/b"), first)
        self.assertEqual(first, ("a", "b"))
        self.assertEqual(show_path(first), "a/b")


if __name__ == "__main__":
    unittest.main()
