"""Point 8: which names fit a pattern, and the plain reading; point 2 where it speaks of told lists."""

import itertools
import re
import string
import unittest

from renamehall.errors import HallError, NoPattern
from renamehall.readings import reading

NAME_SIGNS = string.ascii_letters + string.digits + "-_."
FORMS = {"?": "(.)", "*": "(.*)", "#": "([0-9]+)", "@": "([A-Za-z]+)"}


def reading_by_form(pattern, name):
    """The plain reading by another road than the program's: each group of an expression has all that it can have."""
    found = re.fullmatch("".join(FORMS.get(sign, re.escape(sign)) for sign in pattern), name)
    return None if found is None else list(found.groups())


def cuts(pattern, name):
    """All cuts of a name by a pattern, as the gaps' texts, tried one by one."""
    if pattern == "":
        return [[]] if name == "" else []
    sign = pattern[0]
    if sign not in FORMS:
        return cuts(pattern[1:], name[1:]) if name[:1] == sign else []
    told = []
    for many in range(len(name) + 1):
        if re.fullmatch(FORMS[sign], name[:many]):
            told += [[name[:many], *rest] for rest in cuts(pattern[1:], name[many:])]
    return told


def reading_by_cuts(pattern, name):
    return max(cuts(pattern, name), key=lambda texts: [len(text) for text in texts], default=None)


class Told(unittest.TestCase):
    def told(self, pattern, name, wanted):
        with self.subTest((pattern, name)):
            texts = reading(pattern, name)
            self.assertEqual(texts, wanted)
            self.assertIs(type(texts), list)

    def no_fit(self, pattern, *names):
        for name in names:
            with self.subTest((pattern, name)):
                self.assertIsNone(reading(pattern, name))


class OneGap(Told):
    def test_a_text_alone(self):
        self.told("abc", "abc", [])
        self.told("aZ09-_.", "aZ09-_.", [])
        self.no_fit("abc", "ab", "abcd", "xabc", "abd", "ABC", "Abc", "abC")

    def test_one_sign_any(self):
        for sign in NAME_SIGNS:
            self.told("?", sign, [sign])
            self.told("a?b", "a" + sign + "b", [sign])
        self.no_fit("?", "ab", "123")
        self.no_fit("a?", "a", "abc", "ba")
        self.no_fit("?a", "a", "aab")
        self.no_fit("a?b", "ab", "axxb")

    def test_any_signs(self):
        for name in ("a", "A1-_.z", "abcdefghijkl", "..."):
            self.told("*", name, [name])
        self.told("a*", "a", [""])
        self.told("*a", "a", [""])
        self.told("a*b", "ab", [""])
        self.told("a*b", "a-_.b", ["-_."])
        self.told("a*b", "abab", ["ba"])
        self.no_fit("a*", "b", "ba", "A")
        self.no_fit("*a", "ab", "A")
        self.no_fit("a*b", "a", "b", "abc")

    def test_figures(self):
        for name in ("0", "9", "007", "123456789012"):
            self.told("#", name, [name])
        self.told("a#", "a1", ["1"])
        self.told("#a", "12a", ["12"])
        self.told("a#b", "a345b", ["345"])
        self.no_fit("a#b", "ab", "axb", "a1xb", "ax1b", "a1-b")
        for sign in NAME_SIGNS:
            if sign in string.digits:
                self.told("#", sign, [sign])
            else:
                self.no_fit("#", sign, "1" + sign, sign + "1", "1" + sign + "1")

    def test_letters(self):
        for name in ("a", "Z", "abC", "abcdefGHIJKL"):
            self.told("@", name, [name])
        self.told("1@", "1x", ["x"])
        self.told("@1", "xY1", ["xY"])
        self.told("-@-", "-abc-", ["abc"])
        self.no_fit("-@-", "--", "-1-", "-a1-", "-1a-", "-a.a-")
        for sign in NAME_SIGNS:
            if sign in string.ascii_letters:
                self.told("@", sign, [sign])
            else:
                self.no_fit("@", sign, "a" + sign, sign + "a", "a" + sign + "a")

    def test_gaps_want_a_sign_where_the_star_wants_none(self):
        for sign in "?#@":
            self.no_fit("ab" + sign, "ab")
            self.no_fit(sign + "ab", "ab")
            self.no_fit("a" + sign + "b", "ab")

    def test_great_and_small_letters_are_not_the_same(self):
        self.no_fit("img*", "IMG1", "Img1")
        self.told("IMG*", "IMG1", ["1"])


class MoreGaps(Told):
    def test_texts_and_gaps(self):
        self.told("img_#.*", "img_07.jpg", ["07", "jpg"])
        self.told("@-#.?", "tax-2024.a", ["tax", "2024", "a"])
        self.told("*.*", "a.b.c", ["a.b", "c"])
        self.no_fit("img_#.*", "img_.jpg", "img_x.jpg", "img_07jpg", "xmg_07.jpg")

    def test_gap_one_has_the_most_signs(self):
        self.told("##", "1234", ["123", "4"])
        self.told("**", "abc", ["abc", ""])
        self.told("@@", "abc", ["ab", "c"])
        self.told("*?", "abc", ["ab", "c"])
        self.told("?*", "abc", ["a", "bc"])
        self.told("*#", "ab12", ["ab1", "2"])
        self.told("#*", "12ab", ["12", "ab"])
        self.told("*@", "12ab", ["12a", "b"])
        self.no_fit("##", "1")
        self.no_fit("@@", "a")
        self.no_fit("??", "a", "abc")

    def test_then_gap_two_and_so_on(self):
        self.told("###", "12345", ["123", "4", "5"])
        self.told("*-*-*", "a-b-c-d", ["a-b", "c", "d"])
        self.told("?**", "abc", ["a", "bc", ""])
        self.told("@*#", "ab12", ["ab", "1", "2"])
        self.told("a*a*a", "aaaaa", ["aa", ""])
        self.told("#?#", "12345", ["123", "4", "5"])

    def test_the_first_try_is_given_up(self):
        self.told("*a*b", "xaxbxab", ["xaxbx", ""])
        self.told("*ab*c", "abababxc", ["abab", "x"])
        self.told("*-#", "1-2-3", ["1-2", "3"])
        self.told("*-#", "1-2-x-3", ["1-2-x", "3"])
        self.told("*-#*", "1-2-x", ["1", "2", "-x"])
        self.told("*1@*", "a1b1c1", ["a1b", "c", "1"])
        self.told("#1#", "11111", ["111", "1"])
        self.told("@a@a", "aaaaaa", ["aaa", "a"])
        self.no_fit("#1#", "11", "1a1", "222")

    def test_a_gap_gives_up_more_than_one_sign(self):
        self.told("*abcd", "xyabcd", ["xy"])
        self.told("*??###", "abcdefg123", ["abcde", "f", "g", "1", "2", "3"])
        self.told("@xyz#", "abcxyz9", ["abc", "9"])

    def test_nine_gaps(self):
        self.told("*" * 9, "abcdefghijkl", ["abcdefghijkl"] + [""] * 8)
        self.told("?" * 9, "abc123-_.", list("abc123-_."))
        self.told("#" * 9, "123456789012", ["1234"] + list("56789012"))
        self.told("@" * 9, "abcdefghi", list("abcdefghi"))
        self.told("*?#@*?#@*", "ab1cd2e", reading_by_form("*?#@*?#@*", "ab1cd2e"))
        self.no_fit("?" * 9, "abcdefgh", "abcdefghij")
        self.no_fit("#" * 9, "12345678")

    def test_nine_stars_and_a_text_that_is_not_there(self):
        self.no_fit("*" * 9 + "x", "abcdefghijkl")
        self.no_fit("x" + "*" * 9, "abcdefghijkl")
        self.no_fit("*a" * 9 + "b", "aaaaaaaaaaaa")
        self.told("*a" * 9, "aaaaaaaaaaaa", ["aaa"] + [""] * 8)

    def test_twenty_four_signs(self):
        self.no_fit("a" * 24, "a" * 12)
        self.told("*" * 9 + "a" * 12, "a" * 12, [""] * 9)
        self.no_fit("*" * 9 + "a" * 15, "a" * 12)


class ToldLists(unittest.TestCase):
    def test_changing_a_told_list_changes_nothing(self):
        for pattern, name in (("*-*", "a-b"), ("a", "a"), ("#", "12")):
            with self.subTest(pattern):
                wanted = reading_by_form(pattern, name)
                texts = reading(pattern, name)
                texts.append("other")
                texts[0] = "changed"
                self.assertEqual(reading(pattern, name), wanted)
                texts.clear()
                self.assertEqual(reading(pattern, name), wanted)

    def test_a_told_list_is_a_new_one_each_time(self):
        self.assertIsNot(reading("*-*", "a-b"), reading("*-*", "a-b"))
        self.assertIsNot(reading("a", "a"), reading("a", "a"))

    def test_what_is_asked_later_changes_no_told_list(self):
        first = reading("*-*", "a-b")
        self.assertEqual(reading("*-*", "c-d"), ["c", "d"])
        self.assertIsNone(reading("*-*", "cd"))
        self.assertEqual(first, ["a", "b"])


class Refused(unittest.TestCase):
    def refused(self, pattern, name, at):
        with self.subTest(pattern):
            with self.assertRaises(NoPattern) as caught:
                reading(pattern, name)
            self.assertEqual(caught.exception.at, at)
            self.assertEqual(type(caught.exception).__bases__, (HallError,))

    def test_no_pattern(self):
        self.refused("", "a", 0)
        self.refused("a b", "a", 1)
        self.refused("*/*", "a", 1)
        self.refused("*" * 10, "a", 9)
        self.refused("ab*{", "xyz", 3)

    def test_no_pattern_goes_ahead_of_no_fit(self):
        self.refused("x~", "a", 1)
        self.refused("ab ", "ab", 2)


class EveryShortCase(unittest.TestCase):
    def test_patterns_and_names_of_few_signs(self):
        names = ["".join(signs) for many in range(1, 5) for signs in itertools.product("aB1-", repeat=many)]
        for many in range(1, 4):
            for signs in itertools.product("a1?*#@", repeat=many):
                pattern = "".join(signs)
                for name in names:
                    wanted = reading_by_form(pattern, name)
                    self.assertEqual(reading(pattern, name), wanted, (pattern, name))

    def test_cut_by_cut(self):
        for signs in itertools.product("a?*#@", repeat=4):
            pattern = "".join(signs)
            for name in ("a", "aa", "aaa", "aaaa", "a1a1a", "1a1a1", "11aa", "aa11a", "a-a-a", "aaaaaa", "1a-1a-"):
                self.assertEqual(reading(pattern, name), reading_by_cuts(pattern, name), (pattern, name))


if __name__ == "__main__":
    unittest.main()
