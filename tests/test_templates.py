"""Point 6: templates and their pieces; point 2 where it speaks of told lists."""

import itertools
import re
import string
import unittest

from renamehall.errors import HallError, NoTemplate
from renamehall.templates import pieces_of

NAME_SIGNS = string.ascii_letters + string.digits + "-_."
ALL_SIGNS = [chr(code) for code in range(32, 127)] + ["\n"]
OTHER_SIGNS = [sign for sign in ALL_SIGNS if sign not in NAME_SIGNS + "{}/"]
INTO = ("into",)

# Another road than the program's: one expression for whole templates, and ends that make a template of any text
# which can be the begin of one.
PIECE = r"(?:[A-Za-z0-9._-]|\{n[2-9]?\}|\{[1-9](?:[ul]|z[1-9]|\+(?:0|[1-9][0-9]{0,8}))?\})"
WHOLE = re.compile(rf"{PIECE}+(?:/{PIECE}+)*")
ENDS = ("", "a", "}", "1}")


def text(signs):
    return ("text", signs)


def can_begin(signs):
    return any(WHOLE.fullmatch(signs + end) for end in ENDS)


def at_by_form(template):
    """Where the template is refused, or None."""
    for many in range(1, len(template) + 1):
        if not can_begin(template[:many]):
            return many - 1
    return None if WHOLE.fullmatch(template) else len(template)


def written(pieces):
    """The template that has these pieces."""
    marks = {
        "text": lambda signs: signs,
        "gap": lambda k: f"{{{k}}}",
        "great": lambda k: f"{{{k}u}}",
        "small": lambda k: f"{{{k}l}}",
        "noughts": lambda k, w: f"{{{k}z{w}}}",
        "more": lambda k, m: f"{{{k}+{m}}}",
        "count": lambda v: "{n}" if v == 1 else f"{{n{v}}}",
        "into": lambda: "/",
    }
    return "".join(marks[piece[0]](*piece[1:]) for piece in pieces)


MARKS = (
    [("gap", k) for k in range(1, 10)]
    + [("great", k) for k in range(1, 10)]
    + [("small", k) for k in range(1, 10)]
    + [("noughts", k, w) for k in range(1, 10) for w in range(1, 10)]
    + [("more", k, m) for k in range(1, 10) for m in (0, 1, 9, 10, 99, 100, 10 ** 8, 999999999)]
    + [("count", v) for v in range(1, 10)]
)


class Pieces(unittest.TestCase):
    def told(self, template, wanted):
        with self.subTest(template):
            pieces = pieces_of(template)
            self.assertEqual(pieces, wanted)
            self.assertIs(type(pieces), list)
            for piece in pieces:
                self.assertIs(type(piece), tuple)
                kinds = [str if piece[0] == "text" else int for _ in piece[1:]]
                self.assertEqual([type(thing) for thing in piece], [str, *kinds])

    def test_one_name_sign(self):
        for sign in NAME_SIGNS:
            self.told(sign, [text(sign)])

    def test_name_signs_side_by_side_are_one_text(self):
        self.told("aZ09-_.", [text("aZ09-_.")])
        self.told("a" * 60, [text("a" * 60)])
        self.told("n1u2z", [text("n1u2z")])
        self.told(NAME_SIGNS, [text(NAME_SIGNS)])

    def test_each_sort_of_mark_as_the_document_writes_it(self):
        self.told("{1}", [("gap", 1)])
        self.told("{2u}", [("great", 2)])
        self.told("{3l}", [("small", 3)])
        self.told("{1z4}", [("noughts", 1, 4)])
        self.told("{2+10}", [("more", 2, 10)])
        self.told("{n}", [("count", 1)])
        self.told("{n3}", [("count", 3)])
        self.told("{1}-{2u}.{n3}", [("gap", 1), text("-"), ("great", 2), text("."), ("count", 3)])

    def test_the_least_and_the_greatest_numbers(self):
        self.told("{1}{9}", [("gap", 1), ("gap", 9)])
        self.told("{1u}{9u}", [("great", 1), ("great", 9)])
        self.told("{1l}{9l}", [("small", 1), ("small", 9)])
        self.told("{1z1}{9z9}", [("noughts", 1, 1), ("noughts", 9, 9)])
        self.told("{1+0}{9+999999999}", [("more", 1, 0), ("more", 9, 999999999)])
        self.told("{1+1}{1+9}", [("more", 1, 1), ("more", 1, 9)])
        self.told("{1+100000000}", [("more", 1, 100000000)])
        self.told("{n2}{n9}", [("count", 2), ("count", 9)])

    def test_each_mark_alone_and_among_others(self):
        for mark in MARKS:
            self.told(written([mark]), [mark])
            for pieces in (
                [text("ab"), mark],
                [mark, text("ab")],
                [text("1"), mark, text("n")],
                [("gap", 3), mark, ("count", 2)],
                [text("x"), INTO, mark, INTO, text("y")],
            ):
                self.told(written(pieces), pieces)

    def test_marks_of_each_two_sorts_side_by_side(self):
        some = [("gap", 1), ("great", 2), ("small", 3), ("noughts", 4, 5), ("more", 6, 70), ("count", 1), ("count", 8)]
        for one, other in itertools.product(some, repeat=2):
            self.told(written([one, other]), [one, other])
            self.told(written([one, INTO, other]), [one, INTO, other])

    def test_intos(self):
        self.told("a/b", [text("a"), INTO, text("b")])
        self.told("{1}/{2}", [("gap", 1), INTO, ("gap", 2)])
        self.told("a/b{n}/c", [text("a"), INTO, text("b"), ("count", 1), INTO, text("c")])
        self.told("a/b/c/d/e/f/g/h", [text(sign) if sign != "/" else INTO for sign in "a/b/c/d/e/f/g/h"])

    def test_texts_are_parted_by_marks_and_intos_alone(self):
        self.told("ab{1}cd/ef", [text("ab"), ("gap", 1), text("cd"), INTO, text("ef")])
        self.told("1{1}1", [text("1"), ("gap", 1), text("1")])

    def test_the_same_mark_twice(self):
        self.told("{1}{1}", [("gap", 1), ("gap", 1)])
        self.told("{n}{n}", [("count", 1), ("count", 1)])

    def test_a_longer_template_than_will_be_handed_in(self):
        self.told("{1}a/" * 200 + "b", [("gap", 1), text("a"), INTO] * 200 + [text("b")])


class ToldLists(unittest.TestCase):
    def test_changing_a_told_list_changes_nothing(self):
        for template in ("a", "{1}", "a/{n}"):
            with self.subTest(template):
                wanted = pieces_of(template)
                pieces = pieces_of(template)
                pieces[0] = text("other")
                pieces.append(INTO)
                self.assertEqual(pieces_of(template), wanted)
                pieces.clear()
                self.assertEqual(pieces_of(template), wanted)

    def test_a_told_list_is_a_new_one_each_time(self):
        for template in ("a", "{1}", "a/{n}"):
            with self.subTest(template):
                self.assertIsNot(pieces_of(template), pieces_of(template))

    def test_what_is_asked_later_changes_no_told_list(self):
        first = pieces_of("a{1}")
        self.assertEqual(pieces_of("{n4}/b"), [("count", 4), INTO, text("b")])
        with self.assertRaises(NoTemplate):
            pieces_of("a{")
        self.assertEqual(first, [text("a"), ("gap", 1)])
        self.assertEqual(pieces_of("a{1}"), first)


class Refused(unittest.TestCase):
    def refused(self, template, at):
        with self.subTest(template):
            with self.assertRaises(NoTemplate) as caught:
                pieces_of(template)
            self.assertEqual(caught.exception.at, at)
            self.assertIs(type(caught.exception.at), int)
            self.assertEqual(type(caught.exception).__bases__, (HallError,))

    def test_the_text_without_signs(self):
        self.refused("", 0)

    def test_an_into_first(self):
        self.refused("/", 0)
        self.refused("/a", 0)
        self.refused("/{1}", 0)

    def test_an_into_last_ends_too_early(self):
        self.refused("a/", 2)
        self.refused("{1}/", 4)
        self.refused("a/b/", 4)

    def test_intos_side_by_side(self):
        self.refused("a//b", 2)
        self.refused("a//", 2)
        self.refused("//", 0)
        self.refused("a/{n}//b", 6)

    def test_a_mark_that_ends_too_early(self):
        for begun in ("{", "{1", "{1u", "{9l", "{1z", "{1z4", "{1+", "{1+0", "{1+12", "{1+123456789", "{n", "{n2"):
            self.refused(begun, len(begun))
            self.refused("ab" + begun, len(begun) + 2)
            self.refused("{2}/" + begun, len(begun) + 4)

    def test_a_mark_that_other_signs_follow_too_early(self):
        self.refused("{a", 1)
        self.refused("{}", 1)
        self.refused("{/", 1)
        self.refused("{{1}}", 1)
        self.refused("{1a}", 2)
        self.refused("{1/}", 2)
        self.refused("{1u{", 3)
        self.refused("{n/", 2)
        self.refused("{1z}", 3)
        self.refused("{1+}", 3)

    def test_noughts_for_k_w_and_v(self):
        self.refused("{0}", 1)
        self.refused("{0u}", 1)
        self.refused("{0l}", 1)
        self.refused("{0z1}", 1)
        self.refused("{0+1}", 1)
        self.refused("{1z0}", 3)
        self.refused("{n0}", 2)
        self.refused("{n1}", 2)

    def test_numbers_of_two_figures(self):
        self.refused("{10}", 2)
        self.refused("{11u}", 2)
        self.refused("{1z10}", 4)
        self.refused("{n22}", 3)
        self.refused("{n10}", 2)

    def test_a_nought_ahead_in_a_more(self):
        self.refused("{1+00}", 4)
        self.refused("{1+01}", 4)
        self.refused("{1+0123456789}", 4)

    def test_ten_figures_in_a_more(self):
        self.refused("{1+1234567890}", 12)
        self.refused("{1+1000000000}", 12)
        self.refused("x{1+9999999999", 13)

    def test_other_signs_in_the_number_of_a_more(self):
        self.refused("{1+-1}", 3)
        self.refused("{1++1}", 3)
        self.refused("{1+ 1}", 3)
        self.refused("{1+1 }", 4)
        self.refused("{1+1_0}", 4)
        self.refused("{1+1.0}", 4)

    def test_two_marks_in_one(self):
        self.refused("{1ul}", 3)
        self.refused("{1lu}", 3)
        self.refused("{1uu}", 3)
        self.refused("{1uz4}", 3)
        self.refused("{1z4u}", 4)
        self.refused("{1+4u}", 4)
        self.refused("{nu}", 2)
        self.refused("{n+1}", 2)
        self.refused("{nz3}", 2)

    def test_great_letters_in_marks(self):
        self.refused("{1U}", 2)
        self.refused("{1L}", 2)
        self.refused("{1Z4}", 2)
        self.refused("{N}", 1)
        self.refused("{N3}", 1)

    def test_other_signs(self):
        self.assertEqual(len(OTHER_SIGNS), 96 - 65 - 3)
        for sign in OTHER_SIGNS:
            self.refused(sign, 0)
            self.refused("a" + sign, 1)
            self.refused("a" + sign + "b", 1)
            self.refused("{1}" + sign, 3)
            self.refused("{1}/" + sign, 4)
            self.refused("{" + sign + "}", 1)

    def test_each_sign_that_cannot_stand_in_a_mark(self):
        let_by = {"{": "123456789n", "{1": "}ulz+", "{1u": "}", "{1l": "}", "{1z": "123456789", "{1z1": "}"}
        let_by.update({"{1+": "0123456789", "{1+0": "}", "{1+1": "}0123456789", "{n": "}23456789", "{n2": "}"})
        let_by.update({"{1+12345678": "}0123456789", "{1+123456789": "}"})
        for begun, signs in let_by.items():
            for sign in ALL_SIGNS:
                if sign not in signs:
                    self.refused(begun + sign, len(begun))
                    self.refused(begun + sign + "}", len(begun))
                elif sign == "}":
                    pieces_of(begun + sign)
                else:
                    self.assertIn(at_by_form(begun + sign), (None, len(begun) + 1))
                    self.refused(begun + sign, len(begun) + 1)

    def test_an_end_of_a_mark_alone(self):
        self.refused("}", 0)
        self.refused("a}", 1)
        self.refused("{1}}", 3)
        self.refused("a/}", 2)

    def test_signs_of_other_alphabets(self):
        self.refused("\u00e9", 0)
        self.refused("{\u0661}", 1)
        self.refused("{1+\u0661}", 3)
        self.refused("{1z\u00b2}", 3)

    def test_the_first_of_several_wrong_signs(self):
        self.refused("a b{0}", 1)
        self.refused("{0} /", 1)
        self.refused("a{n1}//", 3)

    def test_a_long_text(self):
        self.refused("a" * 5000 + " ", 5000)
        self.refused("a" * 5000 + "/", 5001)
        self.refused("{1}" * 1000 + "{", 3001)


class EveryShortText(unittest.TestCase):
    def held(self, template):
        wanted = at_by_form(template)
        try:
            pieces = pieces_of(template)
        except NoTemplate as refusal:
            self.assertEqual(refusal.at, wanted, template)
        else:
            self.assertIsNone(wanted, template)
            self.assertEqual(written(pieces), template)
            kinds = [piece[0] for piece in pieces]
            self.assertNotIn(("text", "text"), list(zip(kinds, kinds[1:])), template)

    def test_texts_of_all_sorts_of_signs(self):
        for many in range(5):
            for signs in itertools.product("a/{}1n0uz+ ", repeat=many):
                self.held("".join(signs))

    def test_marks_of_all_sorts_of_signs(self):
        for many in range(5):
            for signs in itertools.product("}102nulz+a", repeat=many):
                self.held("{" + "".join(signs) + "}")

    def test_texts_and_intos(self):
        for many in range(1, 9):
            for signs in itertools.product(("a", "/", "{1}"), repeat=many):
                self.held("".join(signs))


if __name__ == "__main__":
    unittest.main()
