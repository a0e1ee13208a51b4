"""Point 5: patterns and their parts; point 2 where it speaks of told lists."""

import itertools
import re
import string
import unittest

from renamehall.errors import HallError, NoPattern
from renamehall.patterns import parts_of

NAME_SIGNS = string.ascii_letters + string.digits + "-_."
GAP_SIGNS = "?*#@"
OTHER_SIGNS = [chr(code) for code in range(32, 127)] + ["\n"]
OTHER_SIGNS = [sign for sign in OTHER_SIGNS if sign not in NAME_SIGNS + GAP_SIGNS]


def text(signs):
    return ("text", signs)


def gap(sign):
    return ("gap", sign)


def parts_by_form(pattern):
    """The parts by another road than the program's."""
    runs = re.findall(r"[A-Za-z0-9._-]+|[?*#@]", pattern)
    return [gap(run) if run in GAP_SIGNS else text(run) for run in runs]


class Parts(unittest.TestCase):
    def told(self, pattern, wanted):
        with self.subTest(pattern):
            parts = parts_of(pattern)
            self.assertEqual(parts, wanted)
            self.assertIsInstance(parts, list)
            for part in parts:
                self.assertIsInstance(part, tuple)
                self.assertEqual([isinstance(thing, str) for thing in part], [True, True])

    def test_one_sign_alone(self):
        for sign in NAME_SIGNS:
            self.told(sign, [text(sign)])
        for sign in GAP_SIGNS:
            self.told(sign, [gap(sign)])

    def test_texts_and_gaps_in_every_order(self):
        self.told("ab*", [text("ab"), gap("*")])
        self.told("*ab", [gap("*"), text("ab")])
        self.told("a*b", [text("a"), gap("*"), text("b")])
        self.told("?ab#", [gap("?"), text("ab"), gap("#")])
        self.told("img_#.*", [text("img_"), gap("#"), text("."), gap("*")])
        self.told("@-2024-?.x", [gap("@"), text("-2024-"), gap("?"), text(".x")])

    def test_gaps_side_by_side(self):
        self.told("##", [gap("#"), gap("#")])
        self.told("?*#@", [gap("?"), gap("*"), gap("#"), gap("@")])
        self.told("a**b", [text("a"), gap("*"), gap("*"), text("b")])
        self.told("@@a??", [gap("@"), gap("@"), text("a"), gap("?"), gap("?")])

    def test_texts_are_as_long_as_can_be(self):
        self.told("aZ09-_.", [text("aZ09-_.")])
        self.told("abcdefghijklmnopqrstuvwx", [text("abcdefghijklmnopqrstuvwx")])

    def test_nine_gap_signs(self):
        for sign in GAP_SIGNS:
            self.told(sign * 9, [gap(sign)] * 9)
        self.told("a?b*c#d@e?f*g#h@i?j", parts_by_form("a?b*c#d@e?f*g#h@i?j"))
        self.told("*" * 9 + "a" * 15, [gap("*")] * 9 + [text("a" * 15)])
        self.told("a" * 15 + "*" * 9, [text("a" * 15)] + [gap("*")] * 9)

    def test_every_short_pattern(self):
        for many in range(1, 6):
            for signs in itertools.product("aZ?*#@", repeat=many):
                pattern = "".join(signs)
                self.told(pattern, parts_by_form(pattern))


class ToldLists(unittest.TestCase):
    def test_changing_a_told_list_changes_nothing(self):
        parts = parts_of("a*b")
        parts.append(gap("?"))
        parts[0] = text("other")
        self.assertEqual(parts_of("a*b"), [text("a"), gap("*"), text("b")])

    def test_clearing_a_told_list_changes_nothing(self):
        for pattern in ("a", "*", "a*b#"):
            with self.subTest(pattern):
                parts_of(pattern).clear()
                self.assertEqual(parts_of(pattern), parts_by_form(pattern))

    def test_a_told_list_is_a_new_one_each_time(self):
        for pattern in ("a", "*", "a*b#"):
            with self.subTest(pattern):
                one = parts_of(pattern)
                other = parts_of(pattern)
                self.assertEqual(one, other)
                self.assertIsNot(one, other)

    def test_what_is_asked_later_changes_no_told_list(self):
        first = parts_of("a*b")
        self.assertEqual(parts_of("#x"), [gap("#"), text("x")])
        with self.assertRaises(NoPattern):
            parts_of("a b")
        self.assertEqual(first, [text("a"), gap("*"), text("b")])
        self.assertEqual(parts_of("a*b"), first)

    def test_gaps_of_one_pattern_count_for_no_other(self):
        for _ in range(3):
            self.assertEqual(parts_of("*" * 9), [gap("*")] * 9)


class Refused(unittest.TestCase):
    def refused(self, pattern, at):
        with self.subTest(pattern):
            with self.assertRaises(NoPattern) as caught:
                parts_of(pattern)
            self.assertEqual(caught.exception.at, at)
            self.assertIs(type(caught.exception.at), int)
            self.assertIsInstance(caught.exception, HallError)

    def test_the_text_without_signs(self):
        self.refused("", 0)

    def test_each_wrong_sign_first_amid_and_last(self):
        self.assertEqual(len(OTHER_SIGNS), 96 - 65 - 4)
        for sign in OTHER_SIGNS:
            self.refused(sign, 0)
            self.refused(sign + "a*", 0)
            self.refused("a" + sign + "*", 1)
            self.refused("a*" + sign, 2)
            self.refused("??" + sign + "b", 2)

    def test_the_first_of_several_wrong_signs(self):
        self.refused("a/b c", 1)
        self.refused("  ", 0)
        self.refused("ab{1}", 2)

    def test_the_tenth_gap_sign(self):
        for sign in GAP_SIGNS:
            self.refused(sign * 10, 9)
            self.refused(sign * 24, 9)
        self.refused("a?b*c#d@e?f*g#h@i?j*", 19)
        self.refused("?*#@?*#@?abc*d", 12)

    def test_a_wrong_sign_behind_the_tenth_gap_sign(self):
        self.refused("*" * 10 + " ", 9)
        self.refused("*" * 9 + "a?b/", 10)

    def test_a_wrong_sign_ahead_of_the_tenth_gap_sign(self):
        self.refused(" " + "*" * 10, 0)
        self.refused("***~*******", 3)
        self.refused("*" * 9 + "/*", 9)

    def test_a_wrong_sign_behind_the_ninth_gap_sign(self):
        self.refused("*" * 9 + "\n", 9)

    def test_a_long_text(self):
        self.refused("a" * 5000 + "/", 5000)

    def test_every_short_text(self):
        for many in range(1, 5):
            for signs in itertools.product("a*/ ", repeat=many):
                pattern = "".join(signs)
                wrong = re.search("[/ ]", pattern)
                if wrong:
                    self.refused(pattern, wrong.start())


if __name__ == "__main__":
    unittest.main()
