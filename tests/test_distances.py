"""[2], [5], [11], [39], [61]: distances, what is between, and next places."""

import random
import unittest

from growwebs.books import Book
from growwebs.distances import distance, is_between, next_places
from growwebs.errors import OtherBook
from growwebs.pieces import Piece
from growwebs.rows import Row
from tests.webs import PlainWeb, count_pairs, hander, ladder, names, random_books, rails, tent, twigs


class DistancesTest(unittest.TestCase):

    def test_the_examples(self):
        book = ladder()
        self.assertEqual(distance(book.place((), 0), book.place((0, 0, 0), 1)), 4)
        self.assertEqual(distance(book.place((0,), "a"), book.place((0,), "b")), 1)
        self.assertEqual(distance(twigs().place((0, 0), 1), twigs().place((0, 1), 0)), 6)

    def check_place(self, book, web, name, near, rng):
        """Compare what is told of a place with a plain search in a web that is deep enough."""
        found = web.search(name)
        place = book.place(*name)
        joined = 0
        for other in near:
            length = found.get(other, (None,))[0]
            self.assertEqual(distance(place, book.place(*other)), length)
            self.assertEqual(distance(book.place(*other), place), length)
            back = web.search(other)
            want = [step for step, add in web.ties[name].items() if length and back[step][0] + add == length]
            self.assertEqual(names(next_places(place, book.place(*other))), sorted(want))
            middle = rng.choice(near)
            on_way = length is not None and middle in found and found[middle][0] + back[middle][0] == length
            self.assertIs(is_between(book.place(*middle), place, book.place(*other)), on_way)
            joined += length is not None
        return joined

    def test_against_a_plain_search(self):
        joined = apart = 0
        for seed, book in enumerate([hander(), ladder(), rails(), tent(), twigs()] + random_books(31, 60)
                                    + random_books(32, 40, (1, 1, 1, 2))):
            rng = random.Random(seed)
            # Ties of places to this depth, and all ways between them, stay in the plain web.
            depth = 2
            web = PlainWeb(book.pieces, book.seed, min(depth + 4 + count_pairs(book), 9))
            near = [name for name in web.letters if len(name[0]) <= depth]
            for name in rng.sample(near, min(3, len(near))):
                others = rng.sample(near, min(8, len(near)))
                many = self.check_place(book, web, name, others, rng)
                joined += many
                apart += len(others) - many
        self.assertGreater(min(joined, apart), 200)

    def test_far_down(self):
        book = ladder()
        for one, other in ((2000, 0), (1500, 1999), (2000, 2000), (0, 1)):
            for side in (0, 1):
                places = [book.place((0,) * one, 0), book.place((0,) * other, side)]
                for begin, end in (places, places[::-1]):
                    self.assertEqual(distance(begin, end), abs(one - other) + side)
        top, low = book.place((), 1), book.place((0,) * 2000, 0)
        self.assertTrue(is_between(book.place((0,) * 777, 1), top, low))
        self.assertEqual(names(next_places(top, low)), [((), 0), ((0,), 1)])
        self.assertEqual(names(next_places(low, top)), [((0,) * 1999, 0), ((0,) * 2000, 1)])

    def test_far_down_in_a_web_with_rounds(self):
        book = hander()
        row = (0,) + (2, 1) * 900
        rng = random.Random(9)
        for _ in range(20):
            one = book.place(row[:rng.randrange(1801)], 0)
            other = book.place(row[:rng.randrange(1801)], 0)
            length = distance(one, other)
            self.assertEqual(distance(other, one), length)
            if one != other and length is not None:
                for place in next_places(one, other):
                    step = [add for near, add in book.neighbours(one) if near == place]
                    self.assertEqual(distance(place, other) + step[0], length)
                    self.assertTrue(is_between(place, one, other))

    def test_two_branches_far_down(self):
        book = twigs()
        one, other = (0,) + (0, 1) * 900, (0,) + (1, 0) * 900
        lengths = {0: 1, 1: 2}
        want = lengths[1] + lengths[0] + sum(lengths[step] for step in one[1:] + other[1:])
        self.assertEqual(distance(book.place(one, 1), book.place(other, 0)), want)
        self.assertTrue(is_between(book.place((0,), "a"), book.place(one, 1), book.place(other, 0)))
        self.assertFalse(is_between(book.place((0,), 0), book.place((), 0), book.place((0, 1), 0)))

    def test_rows_somewhat_beyond_the_limit(self):
        book = ladder()
        far = book.place(Row([((0,), 2100)]), 1)
        self.assertEqual(distance(book.place((), 0), far), 2101)
        step = next_places(far, book.place((), 1))
        self.assertTrue(step[0].row == Row([((0,), 2099)]))
        self.assertEqual(len(step), 1)

    def test_great_lengths(self):
        great = 10 ** 100
        book = Book("s", {"s": Piece(0, "..", [(0, 1, great)], [("k", (0, 1))]),
                          "k": Piece(2, "..", [("a", 0, great), ("b", 1, great - 1)], [("k", (0, 1))])})
        self.assertEqual(distance(book.place((), 0), book.place((), 1)), great)
        self.assertEqual(distance(book.place((0,) * 100, 0), book.place((0,) * 100, 1)), 201 * great - 100)

    def test_a_place_and_itself(self):
        for book in (ladder(), rails(), hander()):
            place = book.place((0, 0), 0)
            self.assertEqual(distance(place, book.place((0, 0), 0)), 0)
            self.assertEqual(next_places(place, place), [])
            self.assertTrue(is_between(place, place, place))
            self.assertFalse(is_between(book.place((), 0), place, place))

    def test_places_that_no_way_joins(self):
        book = Book("s", {"s": Piece(0, "..", [], [("k", (0,))]), "k": Piece(1, "..", [("a", 1, 1)])})
        one, other, third = book.place((), 0), book.place((), 1), book.place((0,), 1)
        self.assertIsNone(distance(one, other))
        self.assertIsNone(distance(book.place((0,), 0), third))
        self.assertEqual(next_places(one, other), [])
        for place in (one, other, third):
            self.assertFalse(is_between(place, one, other))
        self.assertFalse(is_between(other, one, third))
        self.assertTrue(is_between(one, one, third))

    def test_a_place_told_at_each_piece_where_it_lies(self):
        book = hander()
        goal = book.place((0, 2, 1), 0)
        for place in book.grown(3)[0]:
            for row in book.pieces_of(place):
                piece = book.pieces[book.kind_at(row)]
                told = [letter for letter in "abc"[:piece.mouth] if book.place(row, letter) == place]
                for letter in told:
                    self.assertEqual(distance(book.place(row, letter), goal), distance(place, goal))

    def test_books_with_other_lengths_in_between(self):
        def book(length):
            return Book("s", {"s": Piece(0, "..", [], [("k", (0, 1))]),
                              "k": Piece(2, ".", [("a", 0, length), ("b", 0, 1)])})
        first, second = book(1), book(7)
        for one, length in ((first, 2), (second, 8), (first, 2), (book(1), 2), (second, 8)):
            self.assertEqual(distance(one.place((), 0), one.place((), 1)), length)

    def test_other_books(self):
        place, other = ladder().place((), 0), rails().place((), 0)
        again = ladder().place((0,), 1)
        for call in ((distance, place, other), (next_places, place, other), (is_between, place, again, other),
                     (is_between, place, other, again), (is_between, other, place, again)):
            with self.assertRaises(OtherBook):
                call[0](*call[1:])
        self.assertEqual(distance(place, again), 2)
        self.assertEqual(names(next_places(place, again)), [((), 1), ((0,), 0)])
        self.assertTrue(is_between(ladder().place((), 1), place, again))

    def test_names_of_arguments(self):
        book = ladder()
        one, other = book.place((), 0), book.place((0,), 1)
        self.assertEqual(distance(other=one, one=other), 2)
        self.assertEqual(len(next_places(other=other, one=one)), 2)
        self.assertTrue(is_between(other=other, one=one, place=book.place((), 1)))

    def test_lists_are_new(self):
        book = ladder()
        one, other = book.place((), 0), book.place((0,), 1)
        next_places(one, other).clear()
        self.assertEqual(len(next_places(one, other)), 2)
