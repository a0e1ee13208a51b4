"""Points 23, 24 and 25: doers, their books, doers begun again, the way back; points 2 and 3 for them."""

import random
import unittest

from models import LETTERS, SOME, Model, pull, some_moves, some_rows, turn
from renamehall.books import Doer, begun_again, way_back
from renamehall.errors import Broken, HallError, NoBook, Strayed
from renamehall.halls import Hall
from renamehall.ordering import row_for
from renamehall.walks import turned_back

DRAWERS = [
    (("desk",), ("table",)),
    (("table", "tax"), ("table", "t")),
    (("note",), ("table", "t", "n")),
    (("table",), ("desk",)),
    (("desk", "t", "y24"), ("note",)),
]
ALIKE = [(("note",), ("NOTE",)), (("NOTE",), ("Note",)), (("box",), ("Box",)), (("Note",), ("Box", "note"))]


def written(path):
    return "/".join(path)


def stops(rows, row, blind):
    """What stands behind each small step of a row, from none on: the book and the hall's rows."""
    model = Model(rows, blind)
    told = [("", model.rows())]
    for path, place in row:
        told.append((told[-1][0] + "move " + written(path) + " " + written(place) + "\n", model.rows()))
    told.append((told[-1][0] + "begin\n", model.rows()))
    for number, (path, place) in enumerate(row):
        assert model.move(path, place)
        told.append((told[-1][0], model.rows()))
        told.append((told[-1][0] + "done " + str(number) + "\n", model.rows()))
    return told


def stops_amid(rows, row, blind):
    """The same from the writing of begin on, and each stop amid the writing of a line: step, book, rows, piece."""
    told = stops(rows, row, blind)
    for step in range(len(row) + 1, len(told)):
        book, then = told[step]
        pieces = [""]
        if step + 1 < len(told):
            line = told[step + 1][0][len(book):-1]
            pieces += [line[:many] for many in range(1, len(line) + 1)]
        for piece in pieces:
            yield step, book, then, piece


def sample():
    """Rows of things, a row of moves, and whether the hall is blind."""
    for blind in (False, True):
        yield SOME, [], blind
        yield [], [], blind
        yield SOME, [(("note",), ("memo",))], blind
        yield SOME, [(("desk",), ("table",))], blind
        yield SOME, DRAWERS, blind
        yield SOME, ALIKE, blind
        yield SOME, DRAWERS + turned_back(DRAWERS), blind
        wishes = turn(("a",), ("b",)) + pull(("c",), ("d",), ("x",)) + turn(("e",), ("f",), ("g",))
        yield LETTERS, row_for(Hall(LETTERS, blind), wishes), blind


class Doers(unittest.TestCase):
    def at(self, doer, book, rows, left):
        self.assertEqual(doer.book(), book)
        self.assertEqual(doer.hall().rows(), rows)
        self.assertEqual(doer.left(), left)
        self.assertIs(type(doer.left()), int)

    def strayed(self, hall, text, at):
        rows = hall.rows()
        for asked in (begun_again, way_back):
            with self.subTest((text, asked.__name__)), self.assertRaises(Strayed) as caught:
                asked(hall, text)
            self.assertEqual(caught.exception.at, at)
            self.assertIs(type(caught.exception.at), int)
            self.assertEqual(Strayed.__bases__, (HallError,))
            self.assertEqual(hall.rows(), rows)

    def broken(self, asked, hall, text, at):
        rows = hall.rows()
        with self.subTest((text, asked.__name__)), self.assertRaises(Broken) as caught:
            asked(hall, text)
        self.assertEqual(caught.exception.at, at)
        self.assertIs(type(caught.exception.at), int)
        self.assertEqual(hall.rows(), rows)


class Steps(Doers):
    def test_the_book_and_the_hall_behind_each_small_step(self):
        for rows, row, blind in sample():
            with self.subTest((row, blind)):
                hall = Hall(rows, blind)
                doer = Doer(hall, row)
                told = stops(rows, row, blind)
                self.assertEqual(len(told), 3 * len(row) + 2)
                for step, (book, then) in enumerate(told):
                    self.at(doer, book, then, 3 * len(row) + 1 - step)
                    self.assertIsNone(doer.do(0))
                    self.at(doer, book, then, 3 * len(row) + 1 - step)
                    self.assertIs(doer.hall().is_blind(), blind)
                    self.assertIsNone(doer.do(1))
                self.at(doer, *told[-1], 0)
                self.assertEqual(hall.rows(), sorted(rows))

    def test_several_steps_at_once(self):
        for rows, row, blind in sample():
            told = stops(rows, row, blind)
            for many in range(len(told) + 3):
                doer = Doer(Hall(rows, blind), row)
                doer.do(many)
                step = min(many, len(told) - 1)
                self.at(doer, *told[step], len(told) - 1 - step)
            for many in (2, 3, 5):
                doer = Doer(Hall(rows, blind), row)
                for step in range(0, len(told) + many, many):
                    self.at(doer, *told[min(step, len(told) - 1)], max(len(told) - 1 - step, 0))
                    doer.do(many)

    def test_a_book_by_its_words(self):
        doer = Doer(Hall(SOME), [(("desk", "a"), ("desk", "tax", "a")), (("desk",), ("table",))])
        self.assertEqual(doer.left(), 7)
        self.assertEqual(doer.book(), "")
        doer.do(1)
        self.assertEqual(doer.book(), "move desk/a desk/tax/a\n")
        doer.do(2)
        self.assertEqual(doer.book(), "move desk/a desk/tax/a\nmove desk table\nbegin\n")
        self.assertEqual(doer.hall().rows(), SOME)
        doer.do(3)
        self.assertEqual(doer.book(), "move desk/a desk/tax/a\nmove desk table\nbegin\ndone 0\n")
        self.assertEqual(doer.hall().names_in(()), ["box", "note", "table"])
        doer.do(1)
        self.assertEqual(doer.book(), "move desk/a desk/tax/a\nmove desk table\nbegin\ndone 0\ndone 1\n")

    def test_the_empty_row(self):
        doer = Doer(Hall(SOME), [])
        self.at(doer, "", SOME, 1)
        doer.do(1)
        self.at(doer, "begin\n", SOME, 0)
        doer.do(5)
        self.at(doer, "begin\n", SOME, 0)

    def test_more_steps_than_are_left(self):
        doer = Doer(Hall(SOME), DRAWERS)
        doer.do(1000)
        self.at(doer, *stops(SOME, DRAWERS, False)[-1], 0)
        doer.do(1)
        doer.do(10 ** 9)
        self.at(doer, *stops(SOME, DRAWERS, False)[-1], 0)

    def test_ninety_moves(self):
        row = [((f"n{k}",), (f"n{k + 1}",)) for k in range(90)]
        rows = [(("n0",), 5)]
        doer = Doer(Hall(rows), row)
        self.assertEqual(doer.left(), 271)
        doer.do(271)
        self.at(doer, *stops(rows, row, False)[-1], 0)
        self.assertTrue(doer.book().endswith("done 9\ndone 10\n" + "".join(f"done {k}\n" for k in range(11, 90))))

    def test_broken(self):
        good = (("note",), ("memo",))
        for row, at in (
            ([(("x",), ("y",))], 0),
            ([good, good], 1),
            ([good, (("desk", "a"), ("desk", "b")), good], 1),
            ([good, (("memo",), ("note",)), (("box",), ("desk", "box"))], 2),
            ([good, (("memo",), ("x", "memo"))], 1),
            ([(("note",), ("note",))], 0),
        ):
            hall = Hall(SOME)
            with self.subTest(row), self.assertRaises(Broken) as caught:
                Doer(hall, row)
            self.assertEqual(caught.exception.at, at)
            self.assertEqual(Broken.__bases__, (HallError,))
            self.assertEqual(hall.rows(), SOME)

    def test_the_hall_handed_in_plays_no_part_any_more(self):
        hall = Hall(SOME)
        doer = Doer(hall, DRAWERS)
        hall.drop(("note",))
        hall.move(("desk",), ("other",))
        rows = hall.rows()
        for book, then in stops(SOME, DRAWERS, False):
            self.assertEqual((doer.book(), doer.hall().rows()), (book, then))
            doer.do(1)
        self.assertEqual(hall.rows(), rows)

    def test_the_row_handed_in_plays_no_part_any_more(self):
        row = list(DRAWERS)
        doer = Doer(Hall(SOME), row)
        self.assertEqual(row, DRAWERS)
        row.clear()
        doer.do(100)
        self.at(doer, *stops(SOME, DRAWERS, False)[-1], 0)
        self.assertEqual(row, [])

    def test_a_told_hall_is_a_copy(self):
        doer = Doer(Hall(SOME), DRAWERS)
        for book, then in stops(SOME, DRAWERS, False):
            told = doer.hall()
            self.assertIsNot(told, doer.hall())
            for name in told.names_in(()):
                told.move((name,), ("x" + name,))
            told.put(("new",), 1)
            changed = told.rows()
            self.assertEqual((doer.book(), doer.hall().rows()), (book, then))
            doer.do(1)
            self.assertEqual(told.rows(), changed)

    def test_two_doers(self):
        hall = Hall(SOME)
        one = Doer(hall, DRAWERS)
        other = Doer(hall, ALIKE)
        for step in range(20):
            self.at(one, *stops(SOME, DRAWERS, False)[min(step, 16)], max(16 - step, 0))
            self.at(other, *stops(SOME, ALIKE, False)[min(step, 13)], max(13 - step, 0))
            one.do(1)
            other.do(1)

    def test_many_rows(self):
        for seed in range(150):
            chance = random.Random(seed)
            blind = seed % 2 == 1
            rows = some_rows(chance, blind, 10)
            row, _ = some_moves(chance, rows, blind, 30)
            doer = Doer(Hall(rows, blind), row)
            for book, then in stops(rows, row, blind):
                self.assertEqual((doer.book(), doer.hall().rows()), (book, then))
                doer.do(1)


class Again(Doers):
    def test_from_every_stop(self):
        for rows, row, blind in sample():
            with self.subTest((row, blind)):
                told = stops(rows, row, blind)
                for step, book, then, piece in stops_amid(rows, row, blind):
                    hall = Hall(then, blind)
                    doer = begun_again(hall, book + piece)
                    self.assertIs(type(doer), Doer)
                    self.at(doer, book, then, len(told) - 1 - step)
                    self.assertIs(doer.hall().is_blind(), blind)
                    doer.do(len(told))
                    self.at(doer, *told[-1], 0)
                    self.assertEqual(hall.rows(), then)

    def test_each_small_step_behind_a_stop(self):
        for rows, row, blind in sample():
            told = stops(rows, row, blind)
            for start in range(len(row) + 1, len(told)):
                doer = begun_again(Hall(told[start][1], blind), told[start][0])
                for step in range(start, len(told)):
                    self.at(doer, *told[step], len(told) - 1 - step)
                    doer.do(1)

    def test_stopped_often(self):
        for rows, row, blind in sample():
            told = stops(rows, row, blind)
            for many in (0, 1, 2, 3):
                doer = Doer(Hall(rows, blind), row)
                doer.do(len(row) + 1)
                for turns in range(len(told)):
                    doer = begun_again(doer.hall(), doer.book())
                    doer = begun_again(doer.hall(), doer.book() + "don")
                    doer.do(many)
                doer.do(0 if many else len(told))
                self.at(doer, *told[-1], 0)

    def test_from_many_stops(self):
        for seed in range(60):
            chance = random.Random(seed)
            blind = seed % 2 == 1
            rows = some_rows(chance, blind, 10)
            row, _ = some_moves(chance, rows, blind, 25)
            told = stops(rows, row, blind)
            doer = Doer(Hall(rows, blind), row)
            doer.do(len(row) + 1)
            while doer.left():
                doer.do(chance.randrange(4))
                piece = chance.choice(["", "d", "done", "done ", "done 1", "begin", "move a b"])
                doer = begun_again(doer.hall(), doer.book() + piece)
            self.at(doer, *told[-1], 0)

    def test_any_piece_is_left_away(self):
        book = "move note memo\nbegin\n"
        for piece in ("", " ", "x", "done 0", "done 7", "begin", "move a b", "/" * 6000, "done " + "9" * 5000):
            doer = begun_again(Hall(SOME), book + piece)
            self.at(doer, book, SOME, 2)
            doer = begun_again(Hall(SOME), "begin\n" + piece)
            self.at(doer, "begin\n", SOME, 0)

    def test_a_move_that_was_made_without_its_line(self):
        rows = [(("a",), 1), (("b",), 2), (("c",), 3)]
        book = "move a d\nmove b a\nbegin\n"
        made = [(("b",), 2), (("c",), 3), (("d",), 1)]
        doer = begun_again(Hall(made), book)
        self.at(doer, book, made, 3)
        doer.do(1)
        self.at(doer, book + "done 0\n", made, 2)
        doer.do(1)
        self.at(doer, book + "done 0\n", [(("a",), 2), (("c",), 3), (("d",), 1)], 1)
        doer = begun_again(Hall(rows), book)
        self.at(doer, book, rows, 4)

    def test_a_name_alike_was_made_or_not(self):
        book = "move a A\nbegin\n"
        for blind in (False, True):
            self.at(begun_again(Hall([(("a",), 1)], blind), book), book, [(("a",), 1)], 2)
            self.at(begun_again(Hall([(("A",), 1)], blind), book), book, [(("A",), 1)], 1)
        self.strayed(Hall([(("a",), 1)], True), "move A b\nbegin\n", 0)
        self.strayed(Hall([(("b",), 1)], True), "move A B\nbegin\n", 0)

    def test_where_all_is_done_the_hall_plays_no_part(self):
        for rows in ([], SOME, [(("a",), 1)]):
            for book in ("begin\n", "move a b\nbegin\ndone 0\n", "move a b\nmove b c\nbegin\ndone 0\ndone 1\n"):
                self.at(begun_again(Hall(rows), book), book, sorted(rows), 0)

    def test_the_moves_with_done_lines_play_no_part(self):
        book = "move x y\nmove note memo\nbegin\ndone 0\n"
        doer = begun_again(Hall(SOME), book)
        self.at(doer, book, SOME, 2)
        doer.do(2)
        self.assertEqual(doer.book(), book + "done 1\n")

    def test_a_long_book(self):
        row = [((f"name-{k}",), (f"name-{k + 1}",)) for k in range(300)]
        rows = [(("name-0",), None), (("name-0", "x"), 5)]
        told = stops(rows, row, False)
        self.assertGreater(len(told[-1][0]), 9000)
        for step in (301, 302, 303, 500, 501, 900, 901):
            doer = begun_again(Hall(told[step][1]), told[step][0] + "done")
            self.at(doer, *told[step], 901 - step)
            doer.do(1000)
            self.at(doer, *told[-1], 0)
        doer = Doer(Hall(rows), row)
        doer.do(1000)
        self.at(doer, *told[-1], 0)

    def test_the_hall_handed_in_stays(self):
        hall = Hall(SOME)
        doer = begun_again(hall, "move note memo\nbegin\n")
        hall.drop(("note",))
        doer.do(1)
        self.assertEqual(doer.hall().mark_of(("memo",)), 7)
        self.assertIsNone(hall.there(("memo",)))
        doer.hall().drop(("memo",))
        self.assertEqual(doer.hall().mark_of(("memo",)), 7)

    def test_strayed(self):
        for blind in (False, True):
            self.strayed(Hall(SOME, blind), "move x y\nbegin\n", 0)
            self.strayed(Hall(SOME, blind), "move x note/y\nbegin\n", 0)
            self.strayed(Hall(SOME, blind), "move note memo\nmove x y\nbegin\ndone 0\n", 1)
            self.strayed(Hall(SOME, blind), "move a b\nmove b c\nmove NOTE BOX\nbegin\ndone 0\ndone 1\n", 2)
            self.strayed(Hall([], blind), "move a b\nbegin\n", 0)
            self.strayed(Hall(SOME, blind), "move x y\nbegin\ndone 0", 0)
            self.strayed(Hall(SOME, blind), "move Note Memo\nbegin\n", 0)
            self.strayed(Hall(SOME, blind), "move x desk/TAX/y24\nbegin\n", 0)

    def test_the_path_goes_ahead_of_the_place(self):
        self.broken(begun_again, Hall(LETTERS), "move a b\nbegin\n", 0)
        self.at(way_back(Hall(LETTERS), "move a b\nbegin\n"), "", LETTERS, 1)

    def test_broken(self):
        self.broken(begun_again, Hall(SOME), "move note box\nbegin\n", 0)
        self.broken(begun_again, Hall(SOME), "move note memo\nmove note x\nbegin\n", 1)
        self.broken(begun_again, Hall(SOME), "move x y\nmove note memo\nmove note x\nbegin\ndone 0\n", 2)
        self.broken(begun_again, Hall(SOME), "move x y\nmove z z\nmove box desk/box\nbegin\ndone 0\ndone 1\n", 2)
        self.broken(begun_again, Hall(SOME), "move note note\nbegin\n", 0)

    def test_broken_behind_a_move_without_its_line(self):
        self.broken(begun_again, Hall(SOME), "move x note\nmove x y\nbegin\n", 1)
        self.broken(begun_again, Hall(SOME), "move a b\nmove x note\nmove note m\nmove x y\nbegin\ndone 0\n", 3)
        doer = begun_again(Hall(SOME), "move x note\nmove note m\nbegin\n")
        self.assertEqual(doer.left(), 3)

    def test_strayed_ahead_of_broken(self):
        self.strayed(Hall(SOME), "move x y\nmove q q\nbegin\n", 0)


class NoBooks(unittest.TestCase):
    def no_book(self, text, halls=(SOME, [])):
        for rows in halls:
            for blind in (False, True):
                for asked in (begun_again, way_back):
                    hall = Hall(rows, blind)
                    with self.subTest((text, asked.__name__)), self.assertRaises(NoBook) as caught:
                        asked(hall, text)
                    self.assertIs(type(caught.exception), NoBook)
                    self.assertEqual(NoBook.__bases__, (HallError,))
                    self.assertEqual(hall.rows(), rows)

    def test_no_begin(self):
        for text in ("", "begin", "\n", "move note memo\n", "move note memo\nbegin", "move note memo\ndone 0\n",
                     "done 0\n", "move note memo", "move note memo\nBegin\n", "x\n"):
            self.no_book(text)

    def test_each_stop_ahead_of_begin(self):
        for rows, row, blind in sample():
            book = stops(rows, row, blind)[len(row) + 1][0]
            for many in range(len(book)):
                with self.assertRaises(NoBook):
                    begun_again(Hall(rows, blind), book[:many])
                with self.assertRaises(NoBook):
                    way_back(Hall(rows, blind), book[:many])

    def test_begin_written_otherwise(self):
        for line in ("begin ", " begin", "begin begin", "begun", "begin;"):
            self.no_book(line + "\n")
            self.no_book("move note memo\n" + line + "\n")
            self.no_book(line + "\nbegin\n")
            self.no_book("begin\n" + line + "\n")

    def test_begin_twice(self):
        self.no_book("begin\nbegin\n")
        self.no_book("move note memo\nbegin\nbegin\n")
        self.no_book("begin\nmove note memo\nbegin\n")
        self.no_book("move note memo\nbegin\ndone 0\nbegin\n")

    def test_done_lines_out_of_order(self):
        moves = "move note a\nmove a b\nmove b c\nbegin\n"
        for numbers in ("1", "00", "02", "10", "011", "210", "3"):
            self.no_book(moves + "".join(f"done {number}\n" for number in numbers))

    def test_more_done_lines_than_moves(self):
        self.no_book("begin\ndone 0\n")
        self.no_book("move note memo\nbegin\ndone 0\ndone 1\n")
        self.no_book("move a b\nmove b c\nbegin\ndone 0\ndone 1\ndone 2\n")

    def test_done_lines_written_otherwise(self):
        for line in ("done", "done ", "done  0", " done 0", "done 0 ", "done 00", "done +0", "done -0", "done a",
                     "Done 0", "done 0 0", "done0", "done 0.", "do 0", "done " + "0" * 5000):
            self.no_book("move note memo\nbegin\n" + line + "\n")
        moves = "".join(f"move n{k} n{k + 1}\n" for k in range(12)) + "begin\n"
        dones = "".join(f"done {k}\n" for k in range(10))
        for line in ("done 010", "done 1", "done 11", "done 10 "):
            self.no_book(moves + dones + line + "\n")

    def test_moves_written_otherwise(self):
        for line in ("move", "move ", "move note", "move note ", "move  note memo", "move note  memo",
                     " move note memo", "move note memo ", "move note memo x", "Move note memo", "moved note memo",
                     "note memo", "movenote memo", "move,note,memo", "move note;memo"):
            self.no_book(line + "\nbegin\n")
            self.no_book("move note memo\n" + line + "\nbegin\n")
            self.no_book(line + "\nmove note memo\nbegin\ndone 0\ndone 1\n")

    def test_paths_that_are_none(self):
        for text in ("/", "/note", "note/", "desk//a", "a/b/c/d/e/f/g", "a" * 13, "a:b", "desk/" + "a" * 13, "*", "{1}",
                     "a/b/c/d/e/f/"):
            self.no_book("move " + text + " memo\nbegin\n")
            self.no_book("move note " + text + "\nbegin\n")
            self.no_book("move " + text + " memo\nbegin\ndone 0\n")

    def test_six_names_and_twelve_signs_are_let_by(self):
        book = "move a/b/c/d/e/f note\nmove " + "a" * 12 + " " + "/".join(["a" * 12] * 6) + "\nbegin\ndone 0\ndone 1\n"
        self.assertEqual(begun_again(Hall([]), book).book(), book)

    def test_empty_lines(self):
        self.no_book("\nbegin\n")
        self.no_book("begin\n\n")
        self.no_book("move note memo\n\nbegin\n")
        self.no_book("move note memo\nbegin\n\n")
        self.no_book("move note memo\nbegin\n\ndone 0\n")
        self.no_book("move note memo\nbegin\ndone 0\n\n")

    def test_lines_behind_the_end(self):
        for line in ("x", "move note memo", "begin", "done 0", "done 1", "end"):
            self.no_book("move note memo\nbegin\ndone 0\n" + line + "\n")
        self.no_book("begin\nx\n")
        self.no_book("move a b\nmove b c\nbegin\ndone 0\nmove b c\n")

    def test_ahead_of_strayed_and_of_broken(self):
        self.no_book("move x y\nbegin\nx\n", (SOME,))
        self.no_book("move note box\nbegin\ndone 1\n", (SOME,))


class Back(Doers):
    """The way back; the refusals that it shares are asked above for both."""

    def back(self, rows, row, blind, step, then, book):
        """The way back from that stop leads to the first hall."""
        made = [move for number, move in enumerate(row) if step > len(row) + 1 + 2 * number]
        hall = Hall(then, blind)
        doer = way_back(hall, book)
        self.assertIs(type(doer), Doer)
        told = stops(then, turned_back(made), blind)
        for number, (its_book, its_rows) in enumerate(told):
            self.at(doer, its_book, its_rows, 3 * len(made) + 1 - number)
            doer.do(1)
        self.assertEqual(doer.hall().rows(), sorted(rows))
        self.assertIs(doer.hall().is_blind(), blind)
        self.assertEqual(hall.rows(), then)

    def test_from_every_stop(self):
        for rows, row, blind in sample():
            with self.subTest((row, blind)):
                for step, book, then, piece in stops_amid(rows, row, blind):
                    self.back(rows, row, blind, step, then, book + piece)

    def test_from_many_stops(self):
        for seed in range(40):
            chance = random.Random(seed)
            blind = seed % 2 == 1
            rows = some_rows(chance, blind, 10)
            row, _ = some_moves(chance, rows, blind, 20)
            told = stops(rows, row, blind)
            for step in range(len(row) + 1, len(told)):
                self.back(rows, row, blind, step, told[step][1], told[step][0])

    def test_a_way_back_that_is_stopped_itself(self):
        for rows, row, blind in sample():
            told = stops(rows, row, blind)
            for start in range(len(row) + 1, len(told)):
                back = way_back(Hall(told[start][1], blind), told[start][0])
                many = (back.left() - 1) // 3
                for steps in range(many + 1, 3 * many + 2):
                    stopped = way_back(Hall(told[start][1], blind), told[start][0])
                    stopped.do(steps)
                    self.assertEqual(stopped.left(), 3 * many + 1 - steps)
                    again = begun_again(stopped.hall(), stopped.book())
                    again.do(1000)
                    self.assertEqual(again.hall().rows(), sorted(rows))
                    forth = way_back(stopped.hall(), stopped.book())
                    forth.do(1000)
                    self.assertEqual(forth.hall().rows(), told[start][1])

    def test_an_empty_book_of_its_own(self):
        doer = way_back(Hall([(("b",), 1)]), "move a b\nbegin\ndone 0\n")
        self.at(doer, "", [(("b",), 1)], 4)
        doer.do(2)
        self.at(doer, "move b a\nbegin\n", [(("b",), 1)], 2)
        doer.do(2)
        self.at(doer, "move b a\nbegin\ndone 0\n", [(("a",), 1)], 0)

    def test_nothing_was_moved(self):
        for book in ("begin\n", "move note memo\nbegin\n", "move note memo\nmove memo x\nbegin\ndone"):
            doer = way_back(Hall(SOME), book)
            self.at(doer, "", SOME, 1)
            doer.do(1)
            self.at(doer, "begin\n", SOME, 0)

    def test_a_move_that_was_made_without_its_line(self):
        made = [(("b",), 2), (("d",), 1)]
        doer = way_back(Hall(made), "move a d\nmove b a\nbegin\n")
        self.at(doer, "", made, 4)
        doer.do(4)
        self.at(doer, "move d a\nbegin\ndone 0\n", [(("a",), 1), (("b",), 2)], 0)

    def test_moves_still_to_be_made_play_no_part(self):
        doer = way_back(Hall(SOME), "move note box\nbegin\n")
        self.at(doer, "", SOME, 1)
        doer = way_back(Hall(SOME), "move memo note\nmove desk desk\nmove x y\nbegin\ndone 0\n")
        doer.do(100)
        self.assertEqual(doer.book(), "move note memo\nbegin\ndone 0\n")

    def test_broken(self):
        self.broken(way_back, Hall(SOME), "move x y\nbegin\ndone 0\n", 0)
        self.broken(way_back, Hall(SOME), "move x y\nmove memo note\nbegin\ndone 0\ndone 1\n", 1)
        self.broken(way_back, Hall(SOME), "move box note\nbegin\ndone 0\n", 0)
        self.broken(way_back, Hall(SOME), "move q/r note\nbegin\ndone 0\n", 0)
        self.broken(way_back, Hall(SOME), "move x y\nmove b memo\nmove memo note\nbegin\ndone 0\ndone 1\ndone 2\n", 2)

    def test_broken_behind_a_move_without_its_line(self):
        self.broken(way_back, Hall(SOME), "move x y\nmove memo note\nbegin\ndone 0\n", 1)
        self.broken(way_back, Hall(SOME), "move x/y note\nbegin\n", 0)

    def test_a_long_book(self):
        row = [((f"name-{k}",), (f"name-{k + 1}",)) for k in range(300)]
        rows = [(("name-0",), None), (("name-0", "x"), 5)]
        told = stops(rows, row, False)
        for step in (301, 302, 600, 901):
            doer = way_back(Hall(told[step][1]), told[step][0])
            doer.do(1000)
            self.assertEqual(doer.hall().rows(), rows)
            self.assertEqual(doer.left(), 0)

    def test_the_hall_handed_in_stays(self):
        hall = Hall([(("b",), 1)])
        doer = way_back(hall, "move a b\nbegin\ndone 0\n")
        hall.drop(("b",))
        doer.do(4)
        self.assertEqual(doer.hall().rows(), [(("a",), 1)])
        self.assertEqual(hall.rows(), [])


if __name__ == "__main__":
    unittest.main()
