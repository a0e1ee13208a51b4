"""Point 7: how rules are asked; point 2 where it speaks of refusals."""

import itertools
import unittest

from renamehall.errors import HallError, NoPattern, NoRule, NoTemplate
from renamehall.rules import ask_rule

KINDS = ("slip", "drawer", "all")
GAP_MARKS = ("{%d}", "{%du}", "{%dl}", "{%dz3}", "{%d+7}")


class LetBy(unittest.TestCase):
    def let_by(self, *rule):
        with self.subTest(rule):
            self.assertIs(ask_rule(rule), True)

    def test_the_three_kinds(self):
        for kind in KINDS:
            self.let_by(kind, "img_#.*", "{2}-{1z4}.{n3}", 1)
            self.let_by(kind, "a", "b", 0)

    def test_starts(self):
        for start in (0, 1, 2, 999, 10 ** 9 - 1, 10 ** 9):
            for kind in KINDS:
                self.let_by(kind, "*", "{n}", start)

    def test_each_gap_of_a_pattern(self):
        for many in range(1, 10):
            for gap in range(1, many + 1):
                for mark in GAP_MARKS:
                    self.let_by("all", "#" * many, mark % gap, 0)

    def test_mores_of_gaps_that_are_numbers(self):
        self.let_by("slip", "#", "{1+1}", 0)
        self.let_by("slip", "*#@", "{2+1}", 0)
        self.let_by("slip", "??a#", "{3+0}", 0)
        self.let_by("drawer", "a#b*c#", "{1+5}{2}{3+5}", 0)

    def test_other_pieces_of_each_gap(self):
        for sign in "?*#@":
            for mark in GAP_MARKS[:-1]:
                self.let_by("all", sign, mark % 1, 0)

    def test_intos_of_slips(self):
        self.let_by("slip", "*", "a/{1}", 0)
        self.let_by("slip", "*", "a/b/c/d/e/f/g/{1}", 0)

    def test_a_template_without_gaps(self):
        self.let_by("drawer", "a", "b{n}", 0)
        self.let_by("drawer", "*?#@", "b", 0)

    def test_texts_that_are_no_names(self):
        self.let_by("slip", "a" * 24, "b" * 60, 0)

    def test_the_same_rule_again(self):
        rule = ("slip", "#", "{1+1}", 3)
        for _ in range(3):
            self.assertIs(ask_rule(rule), True)
        self.assertEqual(rule, ("slip", "#", "{1+1}", 3))


class Refused(unittest.TestCase):
    def no_rule(self, *rule):
        with self.subTest(rule):
            with self.assertRaises(NoRule) as caught:
                ask_rule(rule)
            self.assertEqual(type(caught.exception).__bases__, (HallError,))

    def refused_at(self, error, at, *rule):
        with self.subTest(rule):
            with self.assertRaises(error) as caught:
                ask_rule(rule)
            self.assertEqual(caught.exception.at, at)

    def test_another_kind(self):
        for kind in ("", "Slip", "SLIP", "drawers", "slips", "slip ", " all", "both", "a", "l", "sl", "slipdrawer"):
            self.no_rule(kind, "a", "b", 0)

    def test_a_gap_above_the_number_of_gaps(self):
        for many in range(9):
            for gap in range(many + 1, 10):
                for mark in GAP_MARKS:
                    self.no_rule("all", "a" + "#" * many, mark % gap, 0)

    def test_a_gap_too_many_behind_others(self):
        self.no_rule("slip", "*-*", "{1}{2}{3}", 0)
        self.no_rule("slip", "*-*", "{3}{2}{1}", 0)
        self.no_rule("slip", "*-*", "a/{3u}", 0)

    def test_a_more_of_a_gap_that_is_no_number(self):
        for sign in "?*@":
            self.no_rule("slip", sign, "{1+1}", 0)
            self.no_rule("slip", "#" + sign, "{1+1}{2+1}", 0)
            self.no_rule("slip", sign + "#", "{1+0}", 0)
            self.no_rule("slip", "#" + sign + "#", "{1+1}{3+1}{2+1}", 0)

    def test_intos_of_other_kinds(self):
        for kind in ("drawer", "all"):
            self.no_rule(kind, "*", "a/{1}", 0)
            self.no_rule(kind, "*", "{1}/a", 0)
            self.no_rule(kind, "a", "b/c/d", 0)

    def test_starts_beyond_their_bounds(self):
        for start in (-1, -2, -10 ** 9, 10 ** 9 + 1, 10 ** 10, 10 ** 12):
            for kind in KINDS:
                self.no_rule(kind, "*", "{n}", start)
                self.no_rule(kind, "*", "{1}", start)

    def test_no_pattern(self):
        self.refused_at(NoPattern, 0, "slip", "", "b", 0)
        self.refused_at(NoPattern, 1, "slip", "a b", "b", 0)
        self.refused_at(NoPattern, 9, "all", "*" * 10, "b", 0)
        self.refused_at(NoPattern, 1, "drawer", "a/b", "b", 0)

    def test_no_template(self):
        self.refused_at(NoTemplate, 0, "slip", "a", "", 0)
        self.refused_at(NoTemplate, 1, "slip", "a", "{0}", 0)
        self.refused_at(NoTemplate, 2, "all", "*", "a/", 0)
        self.refused_at(NoTemplate, 3, "drawer", "*", "{1}*", 0)

    def test_the_pattern_goes_ahead_of_all_else(self):
        for kind, template, start in itertools.product(("slip", "none"), ("{", "{9}", "b"), (0, -1)):
            self.refused_at(NoPattern, 2, kind, "ab c", template, start)

    def test_the_template_goes_ahead_of_the_rule(self):
        for kind, start in itertools.product(("slip", "none"), (0, -1)):
            self.refused_at(NoTemplate, 4, kind, "ab", "{9}/", start)

    def test_a_template_that_is_wrong_behind_a_gap_too_many(self):
        self.refused_at(NoTemplate, 3, "drawer", "a", "{9} /", 10 ** 10)

    def test_several_reasons_at_once(self):
        self.no_rule("none", "*", "a/{1+1}{4}", -1)

    def test_a_refusal_leaves_nothing_behind(self):
        self.no_rule("slip", "*", "{2}", 0)
        self.assertIs(ask_rule(("slip", "**", "{2}", 0)), True)
        self.no_rule("slip", "*", "{2}", 0)


if __name__ == "__main__":
    unittest.main()
