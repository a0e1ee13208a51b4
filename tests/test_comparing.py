"""Point 26: two rules held against each other; point 3 where it speaks of them."""

import itertools
import random
import string
import unittest

from renamehall.comparing import compared
from renamehall.errors import HallError, NoPattern, NoRule, NoSame, NoTemplate, TooMuch
from renamehall.names import NAME_SIGNS
from renamehall.telling import tells


def slip(pattern, template):
    return ("slip", pattern, template, 0)


def names_of(signs, length):
    return ["".join(name) for name in itertools.product(signs, repeat=length)]


def parting(one, other, names):
    """The names on which two rules tell unlike things."""
    return [name for name in names if tells(one, name, 0) != tells(other, name, 0)]


def ample_signs(one, other):
    """The signs of the rules, and of each sort as many more as a name of four can have unlike ones."""
    text = "".join(one[1:3] + other[1:3])
    signs = {sign for sign in NAME_SIGNS if sign in text.upper() + text.lower()} | set("0")
    for sort in (string.digits, string.ascii_lowercase):
        fresh = [sign for sign in sort if sign not in signs][-4:]
        signs |= set(fresh) | {sign.upper() for sign in fresh}
    return sorted(signs | set("-_."))


class Held(unittest.TestCase):
    def same(self, one, other, most):
        for first, second in ((one, other), (other, one)):
            with self.subTest((first, second, most)):
                self.assertEqual(compared(first, second, most), ("same",))

    def parted(self, one, other, most, length):
        """Any name of that length may be told."""
        for first, second in ((one, other), (other, one)):
            with self.subTest((first, second, most)):
                told = compared(first, second, most)
                self.assertIs(type(told), tuple)
                word, name = told
                self.assertEqual(word, "parted")
                self.assertEqual(len(name), length)
                self.assertTrue(all(sign in NAME_SIGNS for sign in name))
                self.assertNotEqual(tells(first, name, 0), tells(second, name, 0))

    def refused(self, error, one, other, most, at=None):
        with self.subTest((one, other, most)), self.assertRaises(error) as caught:
            compared(one, other, most)
        self.assertIs(type(caught.exception), error)
        self.assertEqual(error.__bases__, (HallError,))
        if at is not None:
            self.assertEqual(caught.exception.at, at)


class Same(Held):
    def test_one_rule_with_itself(self):
        for pattern, template in (("*", "{1}"), ("#", "{1z3}"), ("??", "{2}{1}"), ("@*", "{1u}{2l}"), ("-*", "{1}-")):
            for most in (1, 2, 3, 4):
                self.same(slip(pattern, template), slip(pattern, template), most)

    def test_other_writing(self):
        self.same(slip("*", "{1}"), slip("**", "{1}{2}"), 4)
        self.same(slip("*", "{1}"), slip("**", "{1}"), 4)
        self.same(slip("*", "{1}"), slip("?*", "{1}{2}"), 4)
        self.same(slip("*", "{1}"), slip("*?", "{1}{2}"), 4)
        self.same(slip("*?", "{1}{2}"), slip("?*", "{1}{2}"), 4)
        self.same(slip("*-*", "{1}-{2}"), slip("*-*", "{1}-{2}"), 4)
        self.same(slip("#", "{1}{1}"), slip("#", "{1u}{1l}"), 4)

    def test_names_that_fit_neither(self):
        self.same(slip("?????", "{1}"), slip("??????", "{2}"), 4)
        self.same(slip("aaaaa", "x"), slip("aaaaaa", "a"), 2)

    def test_great_and_small_of_what_is_no_letter(self):
        self.same(slip("#", "{1}"), slip("#", "{1u}"), 4)
        self.same(slip("#", "{1l}"), slip("#", "{1u}"), 4)
        self.same(slip("@", "{1u}"), slip("@", "{1u}"), 4)

    def test_noughts(self):
        self.same(slip("?", "{1z1}"), slip("?", "{1}"), 4)
        self.same(slip("?*", "{1z2}{2}"), slip("?*", "0{1}{2}"), 4)
        self.same(slip("?", "{1z3}"), slip("?", "00{1}"), 4)
        self.same(slip("#", "{1z2}"), slip("#", "0{1}"), 1)

    def test_intos(self):
        self.same(slip("*", "{1}/{1}"), slip("**", "{1}{2}/{1}"), 4)

    def test_parted_by_longer_names_alone(self):
        self.same(slip("?????", "{1}"), slip("??????", "{1}"), 4)
        self.same(slip("##", "{1}{2}"), slip("##", "{2}{1}"), 1)
        self.same(slip("####", "{1}{2}{3}{4}"), slip("####", "{1}{2}{4}{3}"), 3)

    def test_kinds_and_starts_play_no_part(self):
        for one, other in itertools.product(("slip", "drawer", "all"), repeat=2):
            for start in (0, 5, 10 ** 9):
                self.same((one, "*", "{1}", 0), (other, "**", "{1}{2}", start), 2)
                self.parted((one, "##", "{1}{2}", start), (other, "##", "{2}{1}", 0), 4, 2)

    def test_the_told_tuple(self):
        self.assertIs(type(compared(slip("*", "{1}"), slip("*", "{1}"), 1)), tuple)


class Parted(Held):
    def test_by_one_sign(self):
        for most in (1, 2, 3, 4):
            self.parted(slip("*", "{1}"), slip("*", "{1}{1}"), most, 1)
            self.parted(slip("?", "{1}"), slip("??", "{1}"), most, 1)
            self.parted(slip("#", "{1}"), slip("@", "{1}"), most, 1)
            self.parted(slip("*", "{1}"), slip("*", "{1u}"), most, 1)
            self.parted(slip("*", "{1}"), slip("*", "{1l}"), most, 1)
            self.parted(slip("@", "{1l}"), slip("@", "{1u}"), most, 1)
            self.parted(slip("*", "{1}"), slip("*", "-"), most, 1)
            self.parted(slip("*", "{1}"), slip("*", "{1}/{1}"), most, 1)
            self.parted(slip("-", "-"), slip("*", "{1}"), most, 1)
            self.parted(slip("#", "{1}"), slip("#", "{1z2}"), most, 1)

    def test_by_two_signs(self):
        for most in (2, 3, 4):
            self.parted(slip("?", "{1}"), slip("*", "{1}"), most, 2)
            self.parted(slip("##", "{1}{2}"), slip("##", "{2}{1}"), most, 2)
            self.parted(slip("@@", "{1}{2}"), slip("@@", "{2}{1}"), most, 2)
            self.parted(slip("??", "{1}{2}"), slip("??", "{2}{1}"), most, 2)
            self.parted(slip("#", "{1z2}"), slip("#", "0{1}"), most, 2)
            self.parted(slip("*-*", "{1}-{2}"), slip("*-*", "{2}-{1}"), most, 2)
            self.parted(slip("?*", "{1}"), slip("*?", "{2}"), most, 2)
            self.parted(slip("@#", "{1}"), slip("@#", "{2}"), most, 2)

    def test_by_three_signs(self):
        for most in (3, 4):
            self.parted(slip("??", "{1}{2}"), slip("?*?", "{1}{2}{3}"), most, 3)
            self.parted(slip("###", "{1}{2}{3}"), slip("###", "{1}{3}{2}"), most, 3)
            self.parted(slip("???", "{1}{2}{3}"), slip("???", "{3}{2}{1}"), most, 3)
            self.parted(slip("###", "{1}"), slip("????", "{1}"), most, 3)
            self.parted(slip("@#@", "{1}{2}{3}"), slip("@#@", "{3}{2}{1}"), most, 3)
            self.parted(slip("???", "-"), slip("???", "{2}"), most, 3)

    def test_by_four_signs(self):
        self.parted(slip("????", "{1}"), slip("?????", "{1}"), 4, 4)
        self.parted(slip("####", "{1}{2}{3}{4}"), slip("####", "{1}{2}{4}{3}"), 4, 4)
        self.parted(slip("@@@@", "{1}{2}{3}{4}"), slip("@@@@", "{1}{3}{2}{4}"), 4, 4)
        self.parted(slip("????", "{4}{3}{2}{1}"), slip("????", "{1}{2}{3}{4}"), 4, 4)
        self.parted(slip("@@##", "{1}{2}{3}{4}"), slip("@@##", "{2}{1}{3}{4}"), 4, 4)
        self.parted(slip("???-", "{1}{2}{3}-"), slip("???-", "{2}{1}{3}-"), 4, 4)

    def test_a_letter_and_its_other_one(self):
        self.parted(slip("a", "x"), slip("A", "x"), 1, 1)
        self.parted(slip("*", "{1}"), slip("a", "a"), 3, 1)
        self.parted(slip("a*", "{1}"), slip("A*", "{1}"), 3, 1)
        self.parted(slip("?a", "{1}"), slip("?A", "{1}"), 2, 2)
        self.parted(slip("a", "A"), slip("a", "a"), 3, 1)
        self.parted(slip("?", "{1u}"), slip("?", "A"), 2, 1)
        self.parted(slip("@@", "{1u}{2}"), slip("@@", "{1}{2u}"), 4, 2)
        self.parted(slip("@@", "{1u}{2u}"), slip("@@", "{2u}{1u}"), 4, 2)
        self.same(slip("a", "A"), slip("a", "A"), 3)

    def test_two_small_letters_alone(self):
        # Great and small of one letter tell the same here, so one letter is not enough.
        one = slip("@@", "{1u}{2u}{1l}{2l}")
        other = slip("@@", "{2u}{1u}{2l}{1l}")
        self.assertEqual(parting(one, other, names_of("aA", 2)), [])
        self.parted(one, other, 4, 2)

    def test_signs_that_are_neither_letters_nor_figures_alone(self):
        # A letter somewhere ahead of a figure: of letters and figures alone, two such stand side by side then.
        for text in ("0", "-", "_"):
            one, other = slip("*@#*", text), slip("*@*#*", text)
            self.assertEqual(parting(one, other, names_of("abAB012", 3)), [])
            self.same(one, other, 2)
            self.parted(one, other, 3, 3)
            self.parted(one, other, 4, 3)
        self.parted(slip("*@#*", "-_"), slip("*@*#*", "-_"), 3, 3)
        self.parted(slip("*@#*", "-_."), slip("*@*#*", "-_."), 3, 3)

    def test_the_order_of_gaps(self):
        self.parted(slip("*@*", "{1}{2}"), slip("*@*", "{2}{1}"), 4, 2)
        self.parted(slip("*#*", "{1}{2}{3}"), slip("*#*", "{3}{2}{1}"), 4, 2)
        self.parted(slip("*.*", "{2}.{1}"), slip("*.*", "{1}.{2}"), 4, 2)

    def test_signs_that_stand_in_templates_alone(self):
        self.parted(slip("?", "{1}"), slip("?", "7"), 3, 1)
        self.parted(slip("??", "{1}7"), slip("??", "7{2}"), 3, 2)
        self.parted(slip("??", "{1}_"), slip("??", "_{2}"), 4, 2)
        self.parted(slip("?", "-{1}"), slip("?", "{1}-"), 4, 1)

    def test_a_nought_parts_where_noughts_stand(self):
        # 0 put ahead of a text that begins with 0: unlike for 0 alone would be missed without it.
        self.parted(slip("#?", "{1z2}{2}"), slip("#?", "0{1}{2}"), 4, 3)
        self.parted(slip("??", "{1z2}{2}"), slip("??", "{2z2}{1}"), 4, 2)

    def test_most_bounds_the_names(self):
        for most in (1, 2, 3, 4):
            self.parted(slip("?" * most, "{1}"), slip("?????", "{1}"), most, most)
            self.same(slip("?" * (most + 1), "{1}"), slip("??????", "{1}"), most)


class Refused(Held):
    GOOD = ("slip", "*", "{1}", 0)
    NO_PATTERN = ("slip", "a b", "{1}", 0)
    NO_TEMPLATE = ("slip", "*", "{1", 0)
    NO_RULE = ("slip", "*", "{2}", 0)
    NO_SAME = ("slip", "#", "{1+1}", 0)
    TOO_MUCH = ("slip", "abcdefghijklmnopqrst", "x", 0)

    def test_as_rules_are(self):
        for bad, error, at in ((self.NO_PATTERN, NoPattern, 1), (self.NO_TEMPLATE, NoTemplate, 2)):
            self.refused(error, bad, self.GOOD, 2, at)
            self.refused(error, self.GOOD, bad, 2, at)
        for rule in (("x", "*", "{1}", 0), ("slip", "*", "{1}", 10 ** 9 + 1), ("all", "*", "{1}/a", 0),
                     ("drawer", "*", "a/{1}", 0), ("slip", "*", "{1+1}", 0)):
            self.refused(NoRule, rule, self.GOOD, 2)
            self.refused(NoRule, self.GOOD, rule, 2)

    def test_no_same(self):
        for template in ("{n}", "{n3}", "a{n}", "{1+1}", "{1+0}", "{1}{1+5}b", "{1}/{n}"):
            rule = ("slip", "#", template, 0)
            self.refused(NoSame, rule, self.GOOD, 2)
            self.refused(NoSame, self.GOOD, rule, 2)
            self.refused(NoSame, rule, rule, 2)

    def test_the_one_then_the_other(self):
        self.refused(NoRule, self.NO_RULE, self.NO_PATTERN, 2)
        self.refused(NoTemplate, self.NO_TEMPLATE, self.NO_PATTERN, 2)
        self.refused(NoPattern, self.NO_PATTERN, self.NO_RULE, 2)
        self.refused(NoPattern, ("slip", "ab c", "{1}", 0), self.NO_PATTERN, 2, 2)
        self.refused(NoPattern, self.NO_PATTERN, ("slip", "ab c", "{1}", 0), 2, 1)

    def test_rules_ahead_of_no_same_ahead_of_too_much(self):
        for bad, error in ((self.NO_PATTERN, NoPattern), (self.NO_TEMPLATE, NoTemplate), (self.NO_RULE, NoRule)):
            self.refused(error, self.NO_SAME, bad, 2)
            self.refused(error, bad, self.NO_SAME, 2)
            self.refused(error, self.TOO_MUCH, bad, 2)
        self.refused(NoSame, self.NO_SAME, self.TOO_MUCH, 2)
        self.refused(NoSame, self.TOO_MUCH, self.NO_SAME, 2)
        self.refused(TooMuch, self.TOO_MUCH, self.GOOD, 2)
        self.refused(TooMuch, self.GOOD, self.TOO_MUCH, 2)

    def test_a_rule_with_too_many_signs_and_a_count(self):
        self.refused(NoSame, ("slip", "abcdefghijklmnopqrst", "{n}", 0), self.GOOD, 4)


class Bound(Held):
    def bound(self, one, other, most, held):
        if held:
            self.assertIn(compared(one, other, most)[0], ("same", "parted"))
        else:
            self.refused(TooMuch, one, other, most)
            self.refused(TooMuch, other, one, most)

    def test_names_of_four(self):
        for sign in "-_.0123456789":
            self.bound(slip(sign, sign), slip("*", "{1}"), 4, True)
        self.bound(slip("-", "-"), slip("_*", "{1}"), 4, False)
        self.bound(slip("a", "a"), slip("*", "{1}"), 4, False)
        self.bound(slip("*", "A"), slip("*", "{1}"), 4, False)
        self.bound(slip("*", "{1}"), slip("*", "{1}"), 4, True)
        self.bound(slip("----", "--"), slip("-*-", "{1}-"), 4, True)

    def test_names_of_three(self):
        self.bound(slip("012", "3"), slip("4*", "5"), 3, True)
        self.bound(slip("012", "3"), slip("4*", "56"), 3, False)
        self.bound(slip("aBc", "Abc"), slip("CBA", "cb"), 3, True)
        self.bound(slip("aBc", "Abc"), slip("CBA-", "cb"), 3, False)
        self.bound(slip("aBc", "Abc"), slip("dBA", "cb"), 3, False)
        self.bound(slip("ab-_", "a"), slip("B", "A"), 3, True)

    def test_names_of_two(self):
        self.bound(slip("0123456789", "-_."), slip("abcdefg", "a"), 2, True)
        self.bound(slip("0123456789", "-_."), slip("abcdefgh", "a"), 2, False)
        self.bound(slip("abcdefghijklm", "-"), slip("*", "{1}"), 2, True)
        self.bound(slip("abcdefghijklm", "-_"), slip("*", "{1}"), 2, False)
        self.bound(slip("abcdefghijklmn", "a"), slip("*", "{1}"), 2, False)

    def test_names_of_one(self):
        for most, held in ((1, True), (2, False)):
            one = slip("abcdefghijklmnopqrstuvwx", "yz")
            self.bound(one, slip("0123456789-_.", "x"), most, held)

    def test_a_nought_counts_where_a_noughts_stands(self):
        self.bound(slip("*", "{1z2}"), slip("-*", "{1}"), 4, False)
        self.bound(slip("*", "{1z2}"), slip("0*", "{1}"), 4, True)
        self.bound(slip("*", "{1z2}"), slip("*", "{1}"), 4, True)
        self.bound(slip("*", "{1}12345"), slip("*", "{1z2}"), 3, True)
        self.bound(slip("*", "{1}123456"), slip("*", "{1z2}"), 3, False)

    def test_signs_of_marks_do_not_count(self):
        self.bound(slip("********", "{1u}{2l}{3}{8}{4z5}"), slip("0*", "{1}/{1}"), 4, True)
        self.bound(slip("@#?*", "{1}{2}/{3}"), slip("-", "-"), 4, True)


class ByAllNames(Held):
    """Against all names, or against all of ample signs."""

    PATTERNS = ("*", "**", "?", "??", "?*", "#", "##", "@", "@@", "#*", "*#", "@*", "*@", "@#", "a*", "*a", "a", "A?",
                "0*", "-", "*-*", "?-?", "*0*", "??*", "#@")
    TEMPLATES = ("{1}", "{1u}", "{1l}", "{1z1}", "{1z2}", "x", "a{1}", "{1}A", "0{1}", "{1}/{1}")
    OF_TWO = ("{2}", "{1}{2}", "{2}{1}", "{2u}{1}", "{1}{2z2}", "{1}/{2}", "{1l}{2l}", "{2l}{1l}")

    def rule(self, chance, pattern=None):
        pattern = pattern or chance.choice(self.PATTERNS)
        many = sum(sign in "?*#@" for sign in pattern)
        templates = ("x", "a", "A", "0") + self.TEMPLATES * (many > 0) + self.OF_TWO * (many > 1)
        return slip(pattern, chance.choice(templates))

    def held(self, one, other, most, signs):
        """The answer is that of going through all names of these signs."""
        told = compared(one, other, most)
        for length in range(1, most + 1):
            names = parting(one, other, names_of(signs, length))
            if names:
                self.assertEqual((told[0], len(told[1])), ("parted", length), (one, other, most, told))
                self.assertNotEqual(tells(one, told[1], 0), tells(other, told[1], 0))
                return
        self.assertEqual(told, ("same",), (one, other, most))

    def test_all_names_of_one_sign(self):
        for seed in range(300):
            chance = random.Random(seed)
            self.held(self.rule(chance), self.rule(chance), 1, NAME_SIGNS)

    def test_all_names_of_two_signs(self):
        for seed in range(25):
            chance = random.Random(seed)
            one = self.rule(chance)
            twin = (one[0], one[1], chance.choice(("{1}", one[2], "{1u}")) if one[1][0] in "?*#@" else one[2], 0)
            self.held(one, twin, 2, NAME_SIGNS)

    def test_names_of_three_ample_signs(self):
        for one, other in (
            (slip("###", "{1}{2}{3}"), slip("###", "{1}{3}{2}")),
            (slip("@?@", "{1}{2l}{3}"), slip("@?@", "{1}{2}{3}")),
            (slip("*-*", "{1}-{2}"), slip("*-*", "{2}-{1}")),
            (slip("*?", "{1u}{2}"), slip("?*", "{1}{2u}")),
            (slip("?*", "{1}{2}"), slip("*", "{1}")),
        ):
            self.held(one, other, 3, ample_signs(one, other))

    def test_names_of_four_signs(self):
        for one, other in (
            (slip("?*?", "{1}{2}{3}"), slip("??*", "{1}{2}{3}")),
            (slip("#?#?", "{1}{2}{3}{4}"), slip("#?#?", "{3}{2}{1}{4}")),
            (slip("@@@@", "{1}{2}{3}{4u}"), slip("@@@@", "{1}{2}{3}{4}")),
        ):
            self.held(one, other, 4, "012abAB-")

    def test_many_rules_by_chance(self):
        # Where they are told to be the same, many names of three and four signs are asked that nothing chose.
        told_same = 0
        for seed in range(400):
            chance = random.Random(seed)
            one = self.rule(chance)
            other = self.rule(chance, chance.choice((one[1], one[1], None)))
            most = chance.choice((2, 3, 4))
            try:
                told = compared(one, other, most)
            except TooMuch:
                continue
            if told == ("same",):
                told_same += 1
                names = ["".join(chance.choices(NAME_SIGNS, k=chance.randint(1, most))) for _ in range(300)]
                self.assertEqual(parting(one, other, names), [], (one, other, most))
            else:
                self.assertNotEqual(tells(one, told[1], 0), tells(other, told[1], 0))
                for length in range(1, len(told[1])):
                    self.assertEqual(parting(one, other, names_of("abAB01-_", length)), [])
        self.assertGreater(told_same, 10)


if __name__ == "__main__":
    unittest.main()
