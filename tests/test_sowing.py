"""Point 18: the wishes that rules tell for a hall; point 2 where it speaks of them."""

import unittest

from renamehall.errors import HallError, NoDrawer, NoPattern, NoPlace, NoRule, NoTemplate
from renamehall.halls import Hall
from renamehall.sowing import wishes_of

SOME = [
    (("box",), None),
    (("box", "img1"), 1),
    (("box", "img2"), 2),
    (("box", "old"), None),
    (("box", "old", "img9"), 9),
    (("box", "txt"), 3),
    (("desk",), None),
    (("desk", "img1"), 4),
    (("img7",), 7),
    (("tax",), None),
]


class Sown(unittest.TestCase):
    def told(self, rules, wanted, drawer=(), rows=SOME, blind=False):
        with self.subTest((drawer, rules)):
            hall = Hall(rows, blind)
            handed = list(rules)
            wishes = wishes_of(hall, drawer, handed)
            self.assertEqual(wishes, wanted)
            self.assertIs(type(wishes), list)
            self.assertEqual([type(wish) for wish in wishes], [tuple] * len(wanted))
            self.assertEqual(handed, list(rules))
            self.assertEqual(hall.rows(), sorted(rows))

    def refused(self, error, rules, drawer=(), rows=SOME, **fields):
        with self.subTest((drawer, rules)):
            hall = Hall(rows)
            with self.assertRaises(error) as caught:
                wishes_of(hall, drawer, rules)
            self.assertEqual(type(caught.exception), error)
            self.assertEqual(error.__bases__, (HallError,))
            for field, value in fields.items():
                self.assertEqual(getattr(caught.exception, field), value)
            self.assertEqual(hall.rows(), sorted(rows))


class WhichThings(Sown):
    def test_from_the_hall_itself(self):
        self.told([("slip", "img#", "pic{1}", 0)], [
            (("box", "img1"), ("box", "pic1")),
            (("box", "img2"), ("box", "pic2")),
            (("box", "old", "img9"), ("box", "old", "pic9")),
            (("desk", "img1"), ("desk", "pic1")),
            (("img7",), ("pic7",)),
        ])

    def test_from_a_drawer_on(self):
        rules = [("slip", "img#", "pic{1}", 0)]
        self.told(rules, [
            (("box", "img1"), ("box", "pic1")),
            (("box", "img2"), ("box", "pic2")),
            (("box", "old", "img9"), ("box", "old", "pic9")),
        ], ("box",))
        self.told(rules, [(("box", "old", "img9"), ("box", "old", "pic9"))], ("box", "old"))
        self.told(rules, [(("desk", "img1"), ("desk", "pic1"))], ("desk",))

    def test_a_drawer_does_not_lie_beneath_itself(self):
        self.told([("drawer", "*", "{1}x", 0)], [(("box", "old"), ("box", "oldx"))], ("box",))
        self.told([("all", "*", "{1}x", 0)], [(("desk", "img1"), ("desk", "img1x"))], ("desk",))

    def test_a_drawer_beside_one_that_begins_like_it(self):
        rows = [(("a",), None), (("a", "x"), 1), (("ab",), None), (("ab", "x"), 2)]
        self.told([("slip", "x", "y", 0)], [(("a", "x"), ("a", "y"))], ("a",), rows)

    def test_an_empty_drawer_and_an_empty_hall(self):
        self.told([("all", "*", "x", 0)], [], ("tax",))
        self.told([("all", "*", "x", 0)], [], (), [])

    def test_the_order_of_the_halls_rows(self):
        rows = [(("b",), 1), (("a",), None), (("a", "z"), 2), (("a", "B"), 3), (("Z",), 4), (("a-",), 5)]
        paths = [("Z",), ("a",), ("a", "B"), ("a", "z"), ("a-",), ("b",)]
        self.told([("all", "*", "{1}", 0)], [(path, path) for path in paths], (), rows)

    def test_wishes_for_the_place_where_the_thing_is(self):
        self.told([("slip", "img7", "img7", 0)], [(("img7",), ("img7",))])
        self.told([("slip", "img#", "desk/img1", 0)], [(("desk", "img1"), ("desk", "img1"))], ("desk",))


class WhichRule(Sown):
    def test_where_no_rule_fits(self):
        self.told([("slip", "nothing", "x", 0)], [])
        self.told([("slip", "box", "x", 0), ("drawer", "img*", "y", 0)], [])

    def test_kinds(self):
        self.told([("drawer", "*", "{1u}", 0)], [
            (("box",), ("BOX",)),
            (("box", "old"), ("box", "OLD")),
            (("desk",), ("DESK",)),
            (("tax",), ("TAX",)),
        ])
        self.told([("slip", "@", "{1u}", 0)], [(("box", "txt"), ("box", "TXT"))])
        self.told([("all", "@", "{1u}", 0)], [
            (("box",), ("BOX",)),
            (("box", "old"), ("box", "OLD")),
            (("box", "txt"), ("box", "TXT")),
            (("desk",), ("DESK",)),
            (("tax",), ("TAX",)),
        ])

    def test_a_slip_whose_mark_is_nought_is_no_drawer(self):
        self.told([("drawer", "a", "b", 0)], [], (), [(("a",), 0)])
        self.told([("slip", "a", "b", 0)], [(("a",), ("b",))], (), [(("a",), 0)])

    def test_the_first_rule_that_fits_counts(self):
        rules = [("slip", "img1", "one", 0), ("slip", "img#", "other{1}", 0), ("slip", "*", "rest", 0)]
        self.told(rules, [
            (("box", "img1"), ("box", "one")),
            (("box", "img2"), ("box", "other2")),
            (("box", "old", "img9"), ("box", "old", "other9")),
            (("box", "txt"), ("box", "rest")),
        ], ("box",))
        self.told(rules[::-1], [
            (("box", "img1"), ("box", "rest")),
            (("box", "img2"), ("box", "rest")),
            (("box", "old", "img9"), ("box", "old", "rest")),
            (("box", "txt"), ("box", "rest")),
        ], ("box",))

    def test_the_first_rule_of_the_right_kind_counts(self):
        rules = [("drawer", "*", "d{1}", 0), ("slip", "*", "s{1}", 0), ("all", "*", "x", 0)]
        self.told(rules, [(("box", "old", "img9"), ("box", "old", "simg9"))], ("box", "old"))
        self.told(rules, [
            (("box",), ("dbox",)),
            (("slip",), ("sslip",)),
        ], (), [(("box",), None), (("slip",), 1)])

    def test_twenty_rules(self):
        rules = [("slip", f"t{k}", f"u{k}", 0) for k in range(20)]
        rows = [((f"t{k}",), k) for k in range(19, -1, -1)]
        wanted = [((f"t{k}",), (f"u{k}",)) for k in range(20)]
        self.told(rules, sorted(wanted), (), rows)

    def test_the_letters_of_a_blind_hall_are_held_sign_by_sign(self):
        rows = [(("Img1",), 1), (("img2",), 2)]
        self.told([("slip", "img#", "x{1}", 0)], [(("img2",), ("x2",))], (), rows, True)


class Counts(Sown):
    def test_each_drawer_has_its_own(self):
        self.told([("slip", "*", "{n}", 0)], [
            (("box", "img1"), ("box", "0")),
            (("box", "img2"), ("box", "1")),
            (("box", "old", "img9"), ("box", "old", "0")),
            (("box", "txt"), ("box", "2")),
            (("desk", "img1"), ("desk", "0")),
            (("img7",), ("0",)),
        ])

    def test_from_the_start_on(self):
        self.told([("slip", "*", "{n3}", 8)], [
            (("box", "img1"), ("box", "008")),
            (("box", "img2"), ("box", "009")),
            (("box", "old", "img9"), ("box", "old", "008")),
            (("box", "txt"), ("box", "010")),
        ], ("box",))

    def test_each_rule_has_its_own(self):
        rules = [("slip", "img*", "a{n}", 1), ("slip", "*", "b{n}", 5), ("drawer", "*", "c{n}", 10 ** 9)]
        self.told(rules, [
            (("box",), ("c1000000000",)),
            (("box", "img1"), ("box", "a1")),
            (("box", "img2"), ("box", "a2")),
            (("box", "old"), ("box", "c1000000000")),
            (("box", "old", "img9"), ("box", "old", "a1")),
            (("box", "txt"), ("box", "b5")),
            (("desk",), ("c1000000001",)),
            (("desk", "img1"), ("desk", "a1")),
            (("img7",), ("a1",)),
            (("tax",), ("c1000000002",)),
        ])

    def test_the_same_rule_twice_is_told_apart_by_its_number(self):
        rows = [(("a",), 1), (("b",), None), (("c",), 2), (("d",), None)]
        self.told([("slip", "*", "x{n}", 0), ("all", "*", "x{n}", 0)], [
            (("a",), ("x0",)),
            (("b",), ("x0",)),
            (("c",), ("x1",)),
            (("d",), ("x1",)),
        ], (), rows)
        self.told([("slip", "a", "{n}", 4), ("slip", "*", "{n}", 4), ("slip", "*", "{n}", 4)], [
            (("a",), ("4",)),
            (("c",), ("4",)),
        ], (), rows)

    def test_things_that_do_not_fit_are_not_counted(self):
        rows = [(("a1",), 1), (("b",), 2), (("c2",), 3), (("d",), None), (("e3",), 4)]
        self.told([("slip", "@#", "{n}", 0)], [(("a1",), ("0",)), (("c2",), ("1",)), (("e3",), ("2",))], (), rows)

    def test_things_of_an_earlier_rule_are_not_counted(self):
        rows = [((name,), 1) for name in ("a", "b", "c", "d")]
        self.told([("slip", "b", "x", 0), ("slip", "*", "{n}", 0)], [
            (("a",), ("0",)),
            (("b",), ("x",)),
            (("c",), ("1",)),
            (("d",), ("2",)),
        ], (), rows)

    def test_things_in_other_drawers_between_two(self):
        rows = [(("a",), None), (("b",), None), (("c",), None), (("a", "x"), 1), (("b", "x"), 1)]
        self.told([("all", "*", "n{n}", 0)], [
            (("a",), ("n0",)),
            (("a", "x"), ("a", "n0")),
            (("b",), ("n1",)),
            (("b", "x"), ("b", "n0")),
            (("c",), ("n2",)),
        ], (), rows)

    def test_counts_are_of_the_drawer_where_a_thing_is(self):
        self.told([("slip", "img*", "tax/{n}", 1)], [
            (("box", "img1"), ("tax", "1")),
            (("box", "img2"), ("tax", "2")),
            (("box", "old", "img9"), ("tax", "1")),
            (("desk", "img1"), ("tax", "1")),
            (("img7",), ("tax", "1")),
        ])

    def test_counts_begin_anew_each_time(self):
        hall = Hall(SOME)
        rules = [("slip", "img*", "x{n}", 3)]
        first = wishes_of(hall, ("box",), rules)
        self.assertEqual(wishes_of(hall, ("box",), rules), first)


class Places(Sown):
    def test_one_text_stays_in_its_drawer(self):
        self.told([("slip", "img9", "x", 0)], [(("box", "old", "img9"), ("box", "old", "x"))])

    def test_several_texts_are_the_place(self):
        self.told([("slip", "img9", "tax/x", 0)], [(("box", "old", "img9"), ("tax", "x"))])
        self.told([("slip", "img7", "box/old/ix", 0)], [(("img7",), ("box", "old", "ix"))])
        self.told([("slip", "@#", "{1}/{2}", 0)], [(("box7",), ("box", "7"))], (), [(("box7",), 1), (("box",), None)])

    def test_the_greatest_depth(self):
        names = ("a", "b", "c", "d", "e")
        rows = [(names[:many], None) for many in range(1, 6)] + [(("s",), 1)]
        self.told([("slip", "s", "a/b/c/d/e/{n}", 0)], [(("s",), (*names, "0"))], (), rows)

    def test_a_place_that_is_taken_is_told(self):
        self.told([("slip", "txt", "img1", 0)], [(("box", "txt"), ("box", "img1"))])
        self.told([("slip", "img#", "same", 0)], [
            (("box", "img1"), ("box", "same")),
            (("box", "img2"), ("box", "same")),
            (("box", "old", "img9"), ("box", "old", "same")),
        ], ("box",))

    def test_no_name(self):
        self.refused(NoPlace, [("slip", "img*", "{1}x01234567890", 0)], path=("box", "img1"), texts=("1x01234567890",))
        self.refused(NoPlace, [("slip", "txt*", "{1}", 0)], path=("box", "txt"), texts=("",))
        self.refused(NoPlace, [("drawer", "tax", "a123456789012", 0)], path=("tax",), texts=("a123456789012",))
        self.refused(NoPlace, [("slip", "img7", "tax/" + "a" * 13, 0)], path=("img7",), texts=("tax", "a" * 13))

    def test_twelve_signs_are_a_name(self):
        self.told([("slip", "img7", "a12345678901", 0)], [(("img7",), ("a12345678901",))])

    def test_no_name_among_the_drawers(self):
        self.refused(NoPlace, [("slip", "img7*", "{1}/x", 0)], path=("img7",), texts=("", "x"))
        self.refused(NoPlace, [("slip", "img7*", "box/{1}/x", 0)], path=("img7",), texts=("box", "", "x"))
        self.refused(NoPlace, [("slip", "img7*", "box/{1}", 0)], path=("img7",), texts=("box", ""))

    def test_more_than_six(self):
        names = ("a", "b", "c", "d", "e", "f")
        rows = [(names[:many], None) for many in range(1, 7)] + [(("s",), 1)]
        texts = (*names, "g")
        self.refused(NoPlace, [("slip", "s", "a/b/c/d/e/f/g", 0)], (), rows, path=("s",), texts=texts)

    def test_no_drawer_for_the_place(self):
        self.refused(NoPlace, [("slip", "img7", "x/y", 0)], path=("img7",), texts=("x", "y"))
        self.refused(NoPlace, [("slip", "img7", "Box/y", 0)], path=("img7",), texts=("Box", "y"))
        self.refused(NoPlace, [("slip", "img7", "img7/y", 0)], path=("img7",), texts=("img7", "y"))
        self.refused(NoPlace, [("slip", "img7", "box/x/y", 0)], path=("img7",), texts=("box", "x", "y"))

    def test_a_drawer_is_told_from_the_hall_on(self):
        self.refused(NoPlace, [("slip", "img1", "old/x", 0)], path=("box", "img1"), texts=("old", "x"))

    def test_the_first_thing_in_order(self):
        rules = [("slip", "img#", "x{1}/y", 0)]
        rows = [(("img3",), 3), (("img1",), 1), (("img2",), 2), (("x1",), None)]
        self.refused(NoPlace, rules, (), rows, path=("img2",), texts=("x2", "y"))

    def test_things_that_are_not_beneath_play_no_part(self):
        rules = [("slip", "txt*", "{1}", 0), ("slip", "*", "{1}", 0)]
        self.told(rules, [(("desk", "img1"), ("desk", "img1"))], ("desk",))


class Refused(Sown):
    def test_no_drawer(self):
        rules = [("slip", "*", "{1}", 0)]
        for path in (("x",), ("img7",), ("Box",), ("box", "img1"), ("box", "OLD"), ("x", "y")):
            self.refused(NoDrawer, rules, path, path=path)

    def test_a_drawer_alike_is_none_in_a_blind_hall_too(self):
        for path in (("Box",), ("box", "OLD")):
            with self.assertRaises(NoDrawer) as caught:
                wishes_of(Hall(SOME, True), path, [("slip", "*", "{1}", 0)])
            self.assertEqual(caught.exception.path, path)

    def test_rules(self):
        self.refused(NoPattern, [("slip", "a b", "c", 0)], at=1)
        self.refused(NoTemplate, [("slip", "a", "c/", 0)], at=2)
        self.refused(NoRule, [("slip", "a", "{1}", 0)])
        self.refused(NoRule, [("both", "a", "b", 0)])
        self.refused(NoRule, [("all", "a", "b/c", 0)])
        self.refused(NoRule, [("slip", "a", "b", 10 ** 9 + 1)])

    def test_rules_from_the_left(self):
        good = ("slip", "a", "b", 0)
        self.refused(NoRule, [good, ("slip", "a", "{1}", 0), ("slip", "", "b", 0)])
        self.refused(NoPattern, [good, ("slip", "", "b", 0), ("slip", "a", "{1}", 0)], at=0)
        self.refused(NoTemplate, [("slip", "a", "{", 0), good, ("slip", "", "b", 0)], at=1)

    def test_rules_that_nothing_would_fit(self):
        self.refused(NoRule, [("slip", "*", "x", 0), ("drawer", "nothing", "{1}", 0)])
        self.refused(NoPattern, [("slip", " ", "x", 0)], (), [], at=0)

    def test_rules_go_ahead_of_the_drawer(self):
        self.refused(NoRule, [("slip", "a", "{1}", 0)], ("x",))
        self.refused(NoPattern, [("slip", "*", "x", 0), ("slip", "a/b", "x", 0)], ("x",), at=1)

    def test_the_drawer_goes_ahead_of_the_place(self):
        self.refused(NoDrawer, [("slip", "*", "x/y", 0)], ("x",))

    def test_rules_go_ahead_of_the_place(self):
        self.refused(NoRule, [("slip", "*", "x/y", 0), ("slip", "a", "{1}", 0)])


class Lists(unittest.TestCase):
    def test_told_wishes_may_be_changed(self):
        hall = Hall(SOME)
        rules = [("slip", "img7", "x", 0)]
        told = wishes_of(hall, (), rules)
        self.assertIsNot(wishes_of(hall, (), rules), told)
        told.clear()
        self.assertEqual(wishes_of(hall, (), rules), [(("img7",), ("x",))])

    def test_later_deeds_change_no_told_wishes(self):
        hall = Hall(SOME)
        told = wishes_of(hall, (), [("slip", "img7", "x", 0)])
        hall.move(("img7",), ("img8",))
        self.assertEqual(told, [(("img7",), ("x",))])
        self.assertEqual(wishes_of(hall, (), [("slip", "img7", "x", 0)]), [])


if __name__ == "__main__":
    unittest.main()
