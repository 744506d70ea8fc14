"""[2], [15], [51]: how the number of places within a distance grows."""

import random
import unittest

from growwebs.books import Book
from growwebs.distances import distance
from growwebs.errors import TooMany
from growwebs.growth import Growth, growth
from growwebs.inner import Inside
from growwebs.lanes import grows_on, lanes
from growwebs.pieces import Piece
from growwebs.sights import Sight
from tests.webs import hander, ladder, nest, rails, random_books, strip, tent, twigs


def tree():
    return Book("root", {"root": Piece(0, ".", [], [("bough", (0,)), ("bough", (0,))]),
                         "bough": Piece(1, ".", [("a", 0, 1)], [("bough", (0,)), ("bough", (0,))])})


def powers():
    """Paths on paths on paths, and beside them a path and a tree that are joined to nothing of these."""
    return Book("s", {
        "s": Piece(0, ".....", [(0, 1, 1)], [("p", (1,)), ("z", (2,)), ("t", (3,)), ("p", (2,))]),
        "p": Piece(1, ".", [("a", 0, 1)], [("p", (0,)), ("q", (0,))]),
        "q": Piece(1, ".", [("a", 0, 2)], [("q", (0,)), ("z", (0,))]),
        "z": Piece(1, "..", [("a", 0, 1), (0, 1, 5)], [("z", (1,))]),
        "t": Piece(1, ".", [("a", 0, 1)], [("t", (0,)), ("t", (0,))])})


def leads(book, kind, part, row):
    """The parts of the strands to which a strand leads by a row."""
    level = {(kind, part)}
    for number in row:
        level = {(below, other) for here in level for bud, below, other in lanes(book, *here) if bud == number}
    return level


class GrowthTest(unittest.TestCase):

    def check_growth(self, book, place):
        told = growth(place)
        self.assertIsInstance(told, Growth)
        for row, part, turn in told.rings:
            self.assertTrue(isinstance(row, tuple) and isinstance(turn, tuple) and len(turn) > 0)
            kind = book.kind_at(row)
            self.assertIn(part, Inside(book).together(kind))
            self.assertTrue(all(distance(place, book.place(row, letter)) is not None for letter in part))
            self.assertIn((kind, part), leads(book, kind, part, turn))
            self.assertLessEqual(len(row) + len(turn), len(place.row) + 2000)
        if told.degree is None:
            (row, part, turn), (again, other, turned) = told.rings
            self.assertEqual((row, part, len(turn)), (again, other, len(turned)))
            self.assertNotEqual(turn, turned)
            return told
        self.assertEqual(len(told.rings), told.degree)
        for (row, part, _), (later, other, _) in zip(told.rings, told.rings[1:]):
            self.assertEqual(later[:len(row)], row)
            kind, below = book.kind_at(row), book.kind_at(later)
            self.assertIn((below, other), leads(book, kind, part, later[len(row):]))
            met, waiting = {(below, other)}, [(below, other)]
            while waiting:
                for _, to, end in lanes(book, *waiting.pop()):
                    if (to, end) not in met:
                        met.add((to, end))
                        waiting.append((to, end))
            self.assertNotIn((kind, part), met)
        return told

    def test_the_example(self):
        told = self.check_growth(tree(), tree().place((), 0))
        self.assertIsNone(told.degree)
        self.assertEqual(sorted(turn for _, _, turn in told.rings), [(0,), (1,)])

    def test_degrees(self):
        book = powers()
        cases = [(((), 0), 3), (((), 1), 3), (((), 2), 3), (((), 3), None), (((), 4), 0), (((0, 0, 1, 1, 0), 1), 3),
                 (((1, 0, 0), 1), 3), (((2, 1), 0), None), (((3, 0), 0), 3)]
        for (row, number), degree in cases:
            self.assertEqual(self.check_growth(book, book.place(row, number)).degree, degree)
        for book, place, degree in ((ladder(), ((0, 0), 1), 1), (rails(), ((0,), 0), 1), (tent(), ((0,), 0), 0),
                                    (twigs(), ((0, 1), 1), None), (strip(), ((), 0), 1), (nest(), ((), 0), 0)):
            self.assertEqual(self.check_growth(book, book.place(*place)).degree, degree)

    def test_regions_of_one_web(self):
        book = Book("s", {"s": Piece(0, "...", [], [("p", (0, 1)), ("t", (2,))]),
                          "p": Piece(2, "..", [("a", 0, 1), ("b", 1, 1)], [("p", (0, 1)), ("z", (1,))]),
                          "z": Piece(1, ".", [("a", 0, 1)], [("z", (0,))]),
                          "t": Piece(1, ".", [], [("t", (0,))])})
        degrees = [self.check_growth(book, book.place(row, number)).degree
                   for row, number in (((), 0), ((), 1), ((), 2), ((0, 0), 0), ((0, 1), 0), ((1, 0), 0))]
        self.assertEqual(degrees, [1, 2, 0, 1, 2, 0])

    def test_several_lanes_through_one_bud_are_one_row(self):
        # Both rails are joined by one rung far up, so many chains of lanes lead through the same buds.
        book = Book("s", {"s": Piece(0, "..", [(0, 1, 1)], [("p", (0, 1))]),
                          "p": Piece(2, "..", [("a", 0, 1), ("b", 1, 1)], [("p", (1, 0))])})
        self.assertEqual(self.check_growth(book, book.place((), 0)).degree, 1)
        for seed, other in enumerate(random_books(121, 100)):
            for place in other.grown(1)[0][:3]:
                self.check_growth(other, place)

    def test_two_chains_that_part_behind_one_bud(self):
        # Through one bud two lanes lead on; behind it each part has a bud of its own that leads back.
        book = Book("s", {"s": Piece(0, ".", [], [("p", (0,))]),
                          "p": Piece(1, "..", [("a", 0, 1), ("a", 1, 1)], [("q", (0, 1))]),
                          "q": Piece(2, "..", [("a", 0, 1), ("b", 1, 1)], [("p", (0,)), ("p", (1,))])})
        told = self.check_growth(book, book.place((), 0))
        self.assertIsNone(told.degree)
        self.assertEqual({turn for _, _, turn in told.rings}, {(0, 0), (0, 1)})

    def test_against_how_many_places_there_are(self):
        degrees = []
        books = [ladder(), rails(), tent(), twigs(), hander(), tree(), powers()] + random_books(122, 150, (1, 1, 2))
        for seed, book in enumerate(books):
            rng = random.Random(seed)
            places = book.grown(2, most=10 ** 5)[0]
            for place in rng.sample(places, min(3, len(places))):
                told = self.check_growth(book, place)
                degrees.append(told.degree)
                try:
                    sight = Sight(place)
                except TooMany:
                    continue
                near, far = sight.within(450), sight.within(900)
                if told.degree is None:
                    self.assertGreater(far, 4 * near)
                    self.assertGreater(far, 10 ** 6)
                else:
                    self.assertLess(far, 2 ** told.degree * 1.4 * near + 1)
                    self.assertGreater(far, 2 ** told.degree * 0.6 * near)
                ends = [grows_on(book, stand.kind, stand.part) for stand in sight.stands]
                self.assertIs(told.degree == 0, not any(ends))
        self.assertTrue({0, 1, 2, 3, None} <= set(degrees), set(degrees))

    def test_far_down(self):
        for book, row, degree in ((ladder(), (0,) * 2000, 1), (tree(), (0, 1) * 1000, None),
                                  (powers(), (0,) * 1000 + (1,) + (0,) * 900, 3)):
            told = growth(book.place(row, 0))
            self.assertEqual(told.degree, degree)
            for at, _, turn in told.rings:
                self.assertLessEqual(len(at) + len(turn), len(row) + 2000)
        self.assertEqual(growth(place=ladder().place((), 1)).degree, 1)

    def test_equal_calls_and_new_lists(self):
        book = powers()
        told = growth(book.place((), 0))
        self.assertEqual(vars(told), vars(growth(powers().place((), 0))))
        told.rings.clear()
        self.assertEqual(len(growth(book.place((), 0)).rings), 3)
        self.assertIsInstance(growth(book.place((), 4)).rings, list)
