"""[2], [4], [5], [6], [32], [33]: places, where they lie, their ties, and what is grown."""

import unittest

from growwebs.books import Book, Place
from growwebs.errors import NoPiece, NoPlace, OtherBook, TooLong, TooMany
from growwebs.pieces import Piece
from growwebs.rows import Row
from tests.values import any_values
from tests.webs import PlainWeb, hander, ladder, rails, random_books, tent, twigs

FAR = 10 ** 300


def names(places):
    return [(place.row, place.number) for place in places]


def is_integer(value):
    return isinstance(value, int) and not isinstance(value, bool)


def is_row(value):
    return isinstance(value, Row) or (isinstance(value, (list, tuple)) and all(map(is_integer, value)))


class RowsOfBooksTest(unittest.TestCase):

    def no_piece(self, row, method, *args):
        with self.assertRaises(NoPiece) as caught:
            method(*args)
        error = caught.exception
        self.assertTrue(error.row == row)
        self.assertIs(error.row.__class__, row.__class__)
        return error

    def test_kind_at(self):
        book = hander()
        for row, kind in (((), "s"), ((0,), "p"), ((0, 0), "r"), ((0, 2, 1, 0, 0), "q"), ((1,), "q")):
            for form in (row, list(row), Row([(row, 1)] if row else [])):
                self.assertEqual(book.kind_at(form), kind)
        self.assertEqual(book.kind_at(row=(1,)), "q")

    def test_the_shortest_beginning_is_told(self):
        book = hander()
        for row, first in (((2,), (2,)), ((0, 3, 0), (0, 3)), ((1, 0, 7), (1, 0)), ((0, -1), (0, -1)),
                           ((-1, 0), (-1,)), ((0, 0, 10 ** 50, 1), (0, 0, 10 ** 50))):
            self.no_piece(first, book.kind_at, row)
            self.no_piece(first, book.kind_at, list(row))
            self.no_piece(first, book.place, row, None)
        self.no_piece((0, 3), book.kind_at, Row([((0, 3), FAR)]))
        self.no_piece((0,) * 1999 + (1,), ladder().kind_at, (0,) * 1999 + (1, 5))
        self.no_piece((0,) * 1999 + (1,), ladder().kind_at, Row([((0,), 1999), ((1,), FAR)]))

    def test_a_long_beginning_is_told_as_a_row(self):
        book = ladder()
        want = Row([((0,), 2000), ((1,), 1)])
        for row in ((0,) * 2000 + (1, 1), [0] * 2000 + [1], Row([((0,), 2000), ((1,), 7)])):
            self.no_piece(want, book.kind_at, row)
            self.no_piece(want, book.place, row, 0)
        odd = self.no_piece(Row([((0,), 2000)]) + (7,), book.kind_at, (0,) * 2000 + (7, 0)).row
        self.assertEqual((odd.total(), odd.bud(2000)), (2001, 7))
        self.no_piece(Row([((0,), FAR), ((2,), 1)]), book.kind_at, Row([((0,), FAR), ((2, 0), FAR)]))
        self.no_piece(Row([((0,), FAR), ((0,), 3), ((3,), 1)]), book.place,
                      Row([((0,), FAR), ((0, 0, 0, 3), 5)]), "q")

    def test_values_that_are_no_rows(self):
        book = hander()
        for value in any_values() + [(0, True), [False], (9, None), "00", (0, "0"), ((0,),)]:
            if not is_row(value):
                for call in ((book.kind_at, value), (book.place, value, None)):
                    with self.assertRaises(NoPiece) as caught:
                        call[0](*call[1:])
                    self.assertIs(caught.exception.row, value)

    def test_kinds_far_down(self):
        # The kinds go round by three; a word of two is back after three rounds.
        book = Book("s", {
            "s": Piece(0, ".", [], [("x", (0,))]), "x": Piece(1, ".", [], [("y", (0,))]),
            "y": Piece(1, ".", [], [("z", (0,))]), "z": Piece(1, ".", [], [("x", (0,)), ("st", (0,))]),
            "st": Piece(1, ".", [])})
        for many in (0, 1, 2, 3, 4, 5, 6, 7, 999, 1000, 1001, FAR - 1, FAR):
            kind = "s" if many == 0 else "xyz"[(many - 1) % 3]
            self.assertEqual(book.kind_at(Row([((0,), many)])), kind)
            kind = "s" if many == 0 else "xyz"[(2 * many - 1) % 3]
            self.assertEqual(book.kind_at(Row([((0, 0), many)])), kind)
            if many > 6:
                kind = "xyz"[(2 * many + 3 * (many - 5)) % 3]
                self.assertEqual(book.kind_at(Row([((0, 0), many), ((0,), 1), ((0, 0, 0), many - 5)])), kind)
        self.assertEqual(book.kind_at(Row([((0,), 3 * (FAR // 3)), ((1,), 1)])), "st")
        self.no_piece(Row([((0,), FAR - 2), ((1,), 1)]), book.kind_at, Row([((0,), FAR - 2), ((1,), 2)]))
        word = Row([((0, 0, 0, 1), FAR)])
        self.no_piece((0, 0, 0, 1, 0), book.kind_at, word)


class PlacesTest(unittest.TestCase):

    def test_places_told_by_numbers_and_letters(self):
        book = hander()
        web = PlainWeb(book.pieces, "s", 7)
        handed = 0
        for (row, told), name in web.told.items():
            place = book.place(row, told)
            self.assertEqual((place.row, place.number), name)
            self.assertIsInstance(place.row, tuple)
            self.assertIs(place.book, book)
            self.assertEqual(book.place(list(row), told), place)
            self.assertEqual(book.place(told=told, row=Row([((number,), 1) for number in row])), place)
            handed = max(handed, len(row) - len(name[0]))
        self.assertGreater(handed, 2)

    def test_places_that_are_none(self):
        book = hander()
        for value in any_values() + [3, "c", "d"]:
            for row, good in (((), [0, 1, 2]), ((0,), ["a", "b", "c", 0]), ((0, 0), ["a", "b", 0, 1])):
                if isinstance(value, (bool, list, dict)) or value not in good:
                    with self.assertRaises(NoPlace) as caught:
                        book.place(row, value)
                    self.assertIs(caught.exception.told, value)

    def test_no_piece_is_told_ahead_of_no_place(self):
        with self.assertRaises(NoPiece):
            ladder().place((1,), 9)
        with self.assertRaises(NoPiece):
            ladder().place("", 9)

    def test_the_row_of_a_place(self):
        book = ladder()
        for form in ((0,) * 2000, [0] * 2000, Row([((0,), 2000)])):
            self.assertEqual(book.place(form, 1).row, (0,) * 2000)
            self.assertEqual(book.place(form, "a").row, (0,) * 1999)
        for form in ((0,) * 2001, [0] * 2001, Row([((0, 0, 0), 667)])):
            place = book.place(form, 1)
            self.assertIsInstance(place.row, Row)
            self.assertTrue(place.row == Row([((0,), 2001)]))
            self.assertEqual(book.place(form, "b").row, (0,) * 2000)

    def test_rows_that_are_changed_afterwards(self):
        row = [0, 0]
        place = ladder().place(row, 0)
        row.append(0)
        self.assertEqual(place.row, (0, 0))

    def test_far_places(self):
        book = ladder()
        place = book.place(Row([((0,), FAR)]), "b")
        self.assertTrue(place.row == Row([((0,), FAR - 1)]))
        self.assertEqual(place.number, 1)
        self.assertTrue(place == book.place(Row([((0, 0), FAR // 2 - 1), ((0,), 1)]), 1))
        self.assertEqual(book.letter_of(place), ".")

    def test_far_places_that_are_handed_on(self):
        book = hander()
        rounds = (2, 1)
        for many in (2, 3, 50, 99):
            for last in ((), (2,), (2, 1), (2, 1, 0), (2, 1, 0, 1)):
                row = (0,) + rounds * many + last
                kind = book.kind_at(row)
                for letter in "abc"[:book.pieces[kind].mouth]:
                    near = book.place(row, letter)
                    far = book.place(Row([((0,), 1), (rounds, FAR - 100 + many)]) + last, letter)
                    self.assertEqual(far.number, near.number)
                    self.assertEqual(far.row.total() - 2 * (FAR - 100), len(near.row))

    def test_equality(self):
        book = ladder()
        place = book.place((0,), 1)
        self.assertTrue(place == ladder().place((0, 0), "b"))
        self.assertTrue(place == Place(number=1, row=(0,), book=book))
        for other in (book.place((0,), 0), book.place((0, 0), 1), rails().place((0,), 1)):
            self.assertFalse(place == other)
            self.assertTrue(place != other)
        for other in any_values() + [((0,), 1)]:
            if not isinstance(other, Place):
                self.assertFalse(place == other)
                self.assertFalse(other == place)
        far = Row([((0,), FAR)])
        self.assertTrue(book.place(far, 0) == book.place(Row([((0, 0), FAR // 2)]), 0))
        self.assertFalse(book.place(far, 0) == place)


class LyingTest(unittest.TestCase):

    def test_against_a_plain_web(self):
        for book in [hander(), ladder(), tent(), rails(), twigs()] + random_books(21, 25):
            web = PlainWeb(book.pieces, book.seed, 7)
            for name in list(web.letters)[:40]:
                place = book.place(*name)
                self.assertEqual(book.letter_of(place), web.letters[name])
                rows = [row for row in book.pieces_of(place)]
                self.assertEqual([row for row in rows if len(row) <= 7], sorted(web.lies[name]))
                if max(map(len, rows)) <= 7:
                    got = [((other.row, other.number), length) for other, length in book.neighbours(place)]
                    self.assertEqual(got, sorted(web.ties[name].items()))

    def test_pieces_of(self):
        book = hander()
        self.assertEqual(book.pieces_of(place=book.place((), 2)),
                         [(), (0,), (0, 0), (0, 0, 0), (0, 0, 1), (0, 0, 1, 0)])
        self.assertEqual(ladder().pieces_of(ladder().place((0,), 1)), [(0,), (0, 0)])
        rows = book.pieces_of(book.place((), 1))
        rows.append(None)
        self.assertEqual(book.pieces_of(book.place((), 1)), rows[:-1])
        self.assertTrue(all(isinstance(row, tuple) for row in rows[:-1]))

    def test_neighbours(self):
        book = ladder()
        found = book.neighbours(place=book.place((0,), 1))
        self.assertEqual([(other.row, other.number, length) for other, length in found],
                         [((), 1, 1), ((0,), 0, 1), ((0, 0), 1, 1)])
        self.assertIsInstance(found[0], tuple)
        found.clear()
        self.assertEqual(len(book.neighbours(book.place((0,), 1))), 3)
        self.assertEqual(Book("s", {"s": Piece(0, ".")}).neighbours(Book("s", {"s": Piece(0, ".")}).place((), 0)), [])

    def test_letters(self):
        book = hander()
        self.assertEqual([book.letter_of(book.place((), number)) for number in range(3)], ["x", "y", "z"])
        self.assertEqual(book.letter_of(place=book.place((0, 0), 1)), ".")
        self.assertEqual(book.letter_of(book.place((0, 0), "a")), "y")

    def test_too_long_rows(self):
        book = ladder()
        near, far = book.place((0,) * 2000, 0), book.place((0,) * 2001, 0)
        self.assertEqual(book.pieces_of(near), [(0,) * 2000, (0,) * 2001])
        rows = [other.row for other, _ in book.neighbours(near)]
        self.assertEqual(rows[:2], [(0,) * 1999, (0,) * 2000])
        self.assertTrue(rows[2] == Row([((0,), 2001)]))
        self.assertEqual(book.letter_of(far), ".")
        for place, length in ((far, 2001), (book.place(Row([((0,), FAR)]), 1), FAR)):
            for method in (book.pieces_of, book.neighbours):
                with self.assertRaises(TooLong) as caught:
                    method(place)
                self.assertEqual(caught.exception.length, length)

    def test_places_of_other_books(self):
        book = ladder()
        for method in (book.pieces_of, book.neighbours, book.letter_of):
            for other in (rails().place((), 0), rails().place((0,) * 2001, 0)):
                with self.assertRaises(OtherBook):
                    method(other)
            self.assertEqual(method(ladder().place((), 0)), method(book.place((), 0)))


class GrownTest(unittest.TestCase):

    def test_against_a_plain_web(self):
        for book in [hander(), ladder(), tent(), twigs()] + random_books(22, 25):
            for depth in (0, 1, 2, 5):
                web = PlainWeb(book.pieces, book.seed, depth)
                places, ties = book.grown(depth)
                self.assertEqual(names(places), sorted(web.letters))
                want = sorted((one, other, length) for one in web.ties
                              for other, length in web.ties[one].items() if one < other)
                got = [((one.row, one.number), (other.row, other.number), length) for one, other, length in ties]
                self.assertEqual(got, want)
                self.assertIsInstance(book.grown(depth), tuple)

    def test_the_seed_alone(self):
        places, ties = ladder().grown(0)
        self.assertEqual(names(places), [((), 0), ((), 1)])
        self.assertEqual(ties, [(places[0], places[1], 1)])

    def test_any_depth_of_a_finite_web(self):
        book = tent()
        for depth in (1, 2, 10 ** 9, 10 ** 300):
            self.assertEqual(names(book.grown(depth)[0]), [((), 0), ((), 1), ((0,), 0)])
        self.assertEqual(len(book.grown(depth=10 ** 9, most=3)[0]), 3)
        with self.assertRaises(TooMany) as caught:
            book.grown(10 ** 9, most=2)
        self.assertEqual(caught.exception.most, 2)

    def test_most(self):
        book = ladder()
        self.assertEqual(len(book.grown(999)[0]), 2000)
        self.assertEqual(len(book.grown(4, most=10)[0]), 10)
        self.assertEqual(len(book.grown(1000, most=10 ** 40)[0]), 2002)
        for depth, named in ((1000, {}), (10 ** 9, {}), (10 ** 300, {"most": 5000}), (4, {"most": 9}),
                             (0, {"most": 1})):
            with self.assertRaises(TooMany) as caught:
                book.grown(depth, **named)
            self.assertEqual(caught.exception.most, named.get("most", 2000))
        with self.assertRaises(TooMany):
            twigs().grown(10 ** 9)
        with self.assertRaises(TypeError):
            book.grown(1, 10)

    def test_pieces_without_places(self):
        book = Book("s", {"s": Piece(0, ".", [], [("k", (0,)), ("k", (0,))]),
                          "k": Piece(1, "", [], [("m", ("a",))]), "m": Piece(1, ".", [("a", 0, 2)])})
        self.assertEqual(names(book.grown(1)[0]), [((), 0)])
        self.assertEqual(names(book.grown(2, most=3)[0]), [((), 0), ((0, 0), 0), ((1, 0), 0)])

    def test_lists_are_new(self):
        book = ladder()
        for part in book.grown(2):
            part.clear()
        self.assertEqual(len(book.grown(2)[0]), 6)

    def test_rows_above_two_thousand(self):
        places = ladder().grown(2002, most=5000)[0]
        self.assertEqual(places[4001].row, (0,) * 2000)
        self.assertTrue(places[4003].row == Row([((0,), 2001)]))
