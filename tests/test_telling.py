"""Point 9: what a rule tells for a name; points 7 and 2 where they speak of refusals and of what is handed in."""

import itertools
import unittest

from renamehall.errors import HallError, NoPattern, NoRule, NoTemplate
from renamehall.readings import reading
from renamehall.telling import tells


class Told(unittest.TestCase):
    def told(self, pattern, template, name, wanted, count=0, kind="slip", start=0):
        with self.subTest((pattern, template, name, count)):
            texts = tells((kind, pattern, template, start), name, count)
            self.assertEqual(texts, wanted)
            self.assertIs(type(texts), tuple)
            self.assertEqual([type(text) for text in texts], [str] * len(wanted))


class Pieces(Told):
    def test_texts(self):
        self.told("a", "b", "a", ("b",))
        self.told("*", "aZ09-_.", "whatever", ("aZ09-_.",))
        self.told("*", "n", "x", ("n",), 7)

    def test_gaps(self):
        self.told("*", "{1}", "abc", ("abc",))
        self.told("@-#", "{2}-{1}", "tax-2024", ("2024-tax",))
        self.told("*.*", "{1}_{2}", "a.b.c", ("a.b_c",))
        self.told("?", "{1}{1}{1}", "a", ("aaa",))
        self.told("?" * 9, "{9}{1}{8}{2}", "abcdefghi", ("iahb",))

    def test_gaps_are_those_of_the_plain_reading(self):
        self.told("##", "{2}.{1}", "1234", ("4.123",))
        self.told("**", "{1}_{2}", "abc", ("abc_",))
        self.told("*a*", "{1}-{2}", "banana", ("banan-",))

    def test_great_letters(self):
        self.told("*", "{1u}", "aBc-1_z.", ("ABC-1_Z.",))
        self.told("*-*", "{1u}{2}", "abc-def", ("ABCdef",))
        self.told("*", "{1u}", "abcdefghijkl", ("ABCDEFGHIJKL",))
        self.told("*", "{1u}", "mnopqrstuvwx", ("MNOPQRSTUVWX",))
        self.told("*", "{1u}", "yzYZ", ("YZYZ",))

    def test_small_letters(self):
        self.told("*", "{1l}", "AbC-1_Z.", ("abc-1_z.",))
        self.told("*-*", "{1}{2l}", "ABC-DEF", ("ABCdef",))
        self.told("*", "{1l}", "ABCDEFGHIJKL", ("abcdefghijkl",))
        self.told("*", "{1l}", "MNOPQRSTUVWX", ("mnopqrstuvwx",))
        self.told("*", "{1l}", "yzYZ", ("yzyz",))

    def test_noughts(self):
        self.told("#", "{1z4}", "7", ("0007",))
        self.told("#", "{1z4}", "123", ("0123",))
        self.told("#", "{1z4}", "1234", ("1234",))
        self.told("#", "{1z4}", "12345", ("12345",))
        self.told("#", "{1z1}", "7", ("7",))
        self.told("#", "{1z9}", "7", ("000000007",))
        self.told("#", "{1z3}", "00001", ("00001",))
        self.told("@", "{1z4}", "ab", ("00ab",))

    def test_noughts_stand_ahead_of_all_signs(self):
        self.told("*", "{1z4}", "-1", ("00-1",))
        self.told("*", "{1z4}", "-", ("000-",))
        self.told("*", "{1z5}", "-.5", ("00-.5",))
        self.told("*", "{1z3}", "_", ("00_",))

    def test_noughts_of_a_gap_without_signs(self):
        self.told("a*", "{1z3}", "a", ("000",))

    def test_more(self):
        self.told("#", "{1+1}", "1", ("2",))
        self.told("#", "{1+10}", "5", ("15",))
        self.told("#", "{1+0}", "5", ("5",))
        self.told("a#", "{1+4}", "a38", ("42",))

    def test_more_with_noughts_ahead(self):
        self.told("#", "{1+5}", "007", ("012",))
        self.told("#", "{1+0}", "000", ("000",))
        self.told("#", "{1+0}", "007", ("007",))
        self.told("#", "{1+1}", "000", ("001",))
        self.told("#", "{1+999999999}", "000000000000", ("000999999999",))

    def test_more_with_more_signs_than_the_gap(self):
        self.told("#", "{1+1}", "9", ("10",))
        self.told("#", "{1+1}", "99", ("100",))
        self.told("#", "{1+1}", "099", ("100",))
        self.told("#", "{1+999999999}", "1", ("1000000000",))
        self.told("#", "{1+1}", "999999999999", ("1000000000000",))

    def test_more_of_the_right_gap(self):
        self.told("#-#", "{2+1}.{1+10}", "1-5", ("6.11",))
        self.told("##", "{1+1}.{2+1}", "999", ("100.10",))

    def test_counts(self):
        self.told("*", "{n}", "a", ("0",), 0)
        self.told("*", "{n}", "a", ("7",), 7)
        self.told("*", "{n}", "a", ("123",), 123)
        self.told("*", "{n3}", "a", ("000",), 0)
        self.told("*", "{n3}", "a", ("007",), 7)
        self.told("*", "{n3}", "a", ("123",), 123)
        self.told("*", "{n3}", "a", ("1234",), 1234)
        self.told("*", "{n2}", "a", ("09",), 9)
        self.told("*", "{n2}", "a", ("10",), 10)
        self.told("*", "{n9}", "a", ("000000001",), 1)

    def test_the_greatest_count(self):
        self.told("*", "{n}", "a", ("1000000000000",), 10 ** 12)
        self.told("*", "{n9}", "a", ("1000000000000",), 10 ** 12)

    def test_the_start_plays_no_part(self):
        for start in (0, 1, 10 ** 9):
            self.told("*", "{n}-{1}", "a", ("5-a",), 5, start=start)

    def test_the_kind_plays_no_part(self):
        for kind in ("slip", "drawer", "all"):
            self.told("*", "{n}-{1}", "a", ("5-a",), 5, kind=kind)

    def test_all_sorts_together(self):
        self.told(
            "@-#.*",
            "{1u}{1l}_{2z4}{2+10}.{3}{n}{n3}x",
            "Tax-07.a",
            ("TAXtax_000717.a8008x",),
            8,
        )


class Intos(Told):
    def test_texts_are_parted_at_the_intos(self):
        self.told("*", "a/{1}", "x", ("a", "x"))
        self.told("@-#", "{1}/{2}/x", "tax-2024", ("tax", "2024", "x"))
        self.told("@-#", "a{1}b/c{2}d", "tax-2024", ("ataxb", "c2024d"))

    def test_counts_and_gaps_in_each_text(self):
        self.told("*", "{n}{1}/{1}{n}", "x", ("3x", "x3"), 3)

    def test_more_than_six(self):
        self.told("*", "a/b/c/d/e/f/g/h/{1}", "x", ("a", "b", "c", "d", "e", "f", "g", "h", "x"))

    def test_texts_without_signs(self):
        self.told("*-*", "{1}/{2}", "-", ("", ""))
        self.told("*-*", "{1}/a/{2}", "-", ("", "a", ""))
        self.told("*-*", "{1}/{2}", "-b", ("", "b"))
        self.told("*-*", "{1}/{2}", "b-", ("b", ""))
        self.told("a*", "{1}", "a", ("",))
        self.told("a*", "{1u}{1l}", "a", ("",))

    def test_texts_that_are_no_names(self):
        self.told("*", "{1}{1}", "abcdefghijkl", ("abcdefghijklabcdefghijkl",))
        self.told("*", "a/" + "b" * 50, "x", ("a", "b" * 50))
        self.told("*", "{n9}{n9}", "x", ("000000001000000001",), 1)


class NoFit(unittest.TestCase):
    def test_none(self):
        for rule, name in (
            (("slip", "a", "b", 0), "b"),
            (("slip", "#", "{1+1}", 0), "a"),
            (("drawer", "a*", "{1}", 0), "ba"),
            (("all", "??", "{n}", 0), "a"),
            (("slip", "@", "a/{1}", 0), "a1"),
            (("slip", "img*", "{1}", 0), "IMG1"),
        ):
            with self.subTest(rule):
                self.assertIsNone(tells(rule, name, 0))

    def test_against_the_reading(self):
        names = ["".join(signs) for many in range(1, 4) for signs in itertools.product("a1-", repeat=many)]
        for signs in itertools.product("a?*#@", repeat=2):
            pattern = "".join(signs)
            gaps = [sign for sign in pattern if sign != "a"]
            template = "x/" + "/".join(f"{{{k + 1}}}" for k in range(len(gaps))) if gaps else "x"
            for name in names:
                texts = reading(pattern, name)
                wanted = None if texts is None else ("x", *texts)
                self.assertEqual(tells(("slip", pattern, template, 0), name, 0), wanted, (pattern, name))


class Refused(unittest.TestCase):
    def refused(self, error, rule, at=None):
        for name in ("a", "zzz", "12"):
            with self.subTest((rule, name)):
                with self.assertRaises(error) as caught:
                    tells(rule, name, 1)
                self.assertEqual(type(caught.exception).__bases__, (HallError,))
                if at is not None:
                    self.assertEqual(caught.exception.at, at)

    def test_no_pattern(self):
        self.refused(NoPattern, ("slip", "", "b", 0), 0)
        self.refused(NoPattern, ("slip", "a b", "b", 0), 1)
        self.refused(NoPattern, ("slip", "*" * 10, "b", 0), 9)

    def test_no_template(self):
        self.refused(NoTemplate, ("slip", "a", "", 0), 0)
        self.refused(NoTemplate, ("slip", "a", "{n1}", 0), 2)
        self.refused(NoTemplate, ("slip", "a", "b/", 0), 2)

    def test_no_rule(self):
        self.refused(NoRule, ("thing", "a", "b", 0))
        self.refused(NoRule, ("slip", "a", "{1}", 0))
        self.refused(NoRule, ("slip", "*", "{1+1}", 0))
        self.refused(NoRule, ("all", "*", "a/b", 0))
        self.refused(NoRule, ("drawer", "*", "a/b", 0))
        self.refused(NoRule, ("slip", "a", "b", -1))
        self.refused(NoRule, ("slip", "a", "b", 10 ** 9 + 1))

    def test_the_one_that_is_named_first(self):
        self.refused(NoPattern, ("thing", " ", "{", -1), 0)
        self.refused(NoTemplate, ("thing", "a", "{", -1), 1)

    def test_a_refusal_leaves_nothing_behind(self):
        self.refused(NoRule, ("slip", "a", "{1}", 0))
        self.assertEqual(tells(("slip", "*", "{1}", 0), "a", 0), ("a",))


if __name__ == "__main__":
    unittest.main()
