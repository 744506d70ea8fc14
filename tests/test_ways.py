"""[2], [5], [11], [40], [61]: all shortest ways from one place to another one."""

import random
import unittest

from growwebs.books import Book
from growwebs.distances import distance
from growwebs.errors import NoSuch, NotJoined, NotShortest, OtherBook, TooMany
from growwebs.pieces import Piece
from growwebs.ways import Ways
from tests.values import any_values
from tests.webs import hander, ladder, names, near_web, nest, rails, random_books, strip, tent, twigs


def places(book, way):
    return [book.place(row, number) for row, number in way]


class WaysTest(unittest.TestCase):

    def test_the_example(self):
        book = ladder()
        ways = Ways(book.place((), 0), book.place((0, 0, 0), 1))
        self.assertEqual((ways.total(), ways.length, ways.fewest_ties()), (4, 4, 4))
        self.assertEqual(names(ways.way_at(0)), [((), 0), ((), 1), ((0,), 1), ((0, 0), 1), ((0, 0, 0), 1)])
        self.assertEqual(names(ways.way_at(3)), [((), 0), ((0,), 0), ((0, 0), 0), ((0, 0, 0), 0), ((0, 0, 0), 1)])
        self.assertEqual(ways.through(book.place((0,), 0)), 3)
        self.assertTrue(ways.one == book.place((), 0) and ways.other == book.place((0, 0, 0), 1))

    def check_pair(self, book, web, one, other, rng):
        """Compare with a plain search; how many shortest ways there are, 0 if there is none."""
        want = web.ways(one, other)
        begin, end = book.place(*one), book.place(*other)
        if not want:
            with self.assertRaises(NotJoined):
                Ways(begin, end)
            return 0
        ways = Ways(begin, end)
        self.assertEqual(ways.length, distance(begin, end))
        self.assertEqual(ways.total(), len(want))
        self.assertEqual(ways.fewest_ties(), min(len(way) for way in want) - 1)
        for number in range(len(want)):
            self.assertEqual(names(ways.way_at(number)), want[number])
            self.assertEqual(ways.number_of(places(book, want[number])), number)
            self.assertEqual(ways.number_of(tuple(places(book, want[number]))), number)
        near = set(want[0] + want[-1] + rng.sample(sorted(web.letters), min(4, len(web.letters))))
        for name in near:
            self.assertEqual(ways.through(book.place(*name)), sum(name in way for way in want))
        return len(want)

    def test_against_a_plain_search(self):
        counts = []
        books = [hander(), ladder(), rails(), tent(), twigs(), strip(), nest()] + random_books(41, 70, (1, 1, 2)) \
            + random_books(42, 40, (1, 2, 3, 10 ** 100)) + random_books(43, 60, (1,))
        for seed, book in enumerate(books):
            rng = random.Random(seed)
            web, near = near_web(book)
            for _ in range(12):
                one, other = rng.choice(near), rng.choice(near)
                counts.append(self.check_pair(book, web, one, other, rng))
                self.assertEqual(self.check_pair(book, web, other, one, rng), counts[-1])
        self.assertGreater(len([many for many in counts if many == 0]), 50)
        self.assertGreater(len([many for many in counts if many > 1]), 60)
        self.assertGreater(max(counts), 3)

    def test_ways_up_and_deep_into_buds(self):
        # The tie of the seed is far longer than the way around, three pieces down.
        book = Book("s", {"s": Piece(0, "..", [(0, 1, 10 ** 100)], [("p", (1, 0))]),
                          "p": Piece(2, ".", [("a", 0, 1)], [("q", (0, "b"))]),
                          "q": Piece(2, ".", [("b", 0, 1)], [("r", ("a", 0)), ("r", ("a", 0))]),
                          "r": Piece(2, "..", [("a", 0, 1), ("b", 0, 1), ("a", 1, 1), ("b", 1, 1)])})
        ways = Ways(book.place((), 0), book.place((), 1))
        self.assertEqual((ways.length, ways.total(), ways.fewest_ties()), (4, 4, 4))
        self.assertEqual(names(ways.way_at(2)), [((), 0), ((0, 0), 0), ((0, 0, 1), 0), ((0,), 0), ((), 1)])
        self.assertEqual(ways.through(book.place((0, 0, 1), 1)), 1)
        self.assertEqual(ways.through(book.place((0, 0), 0)), 4)
        below = Ways(book.place((0, 0, 0), 0), book.place((0, 0, 1), 1))
        self.assertEqual((below.length, below.total()), (2, 2))

    def test_a_place_and_itself(self):
        for book in (ladder(), hander(), strip()):
            place = book.place((0,), 0)
            ways = Ways(place, book.place((0,), 0))
            self.assertEqual((ways.length, ways.total(), ways.fewest_ties()), (0, 1, 0))
            self.assertEqual(names(ways.way_at(0)), [((0,), 0)])
            self.assertEqual(ways.number_of([place]), 0)
            self.assertEqual((ways.through(place), ways.through(book.place((), 0))), (1, 0))

    def test_wrong_numbers(self):
        book = ladder()
        ways = Ways(book.place((), 0), book.place((0, 0, 0), 1))
        for value in [-1, 4, 10 ** 100] + [value for value in any_values() if not isinstance(value, int)]:
            with self.assertRaises(NoSuch) as caught:
                ways.way_at(value)
            self.assertEqual(caught.exception.number, value)
        for value in (True, False):
            with self.assertRaises(NoSuch):
                ways.way_at(value)

    def test_what_is_none_of_the_ways(self):
        book = ladder()
        ways = Ways(book.place((), 0), book.place((0, 0, 0), 1))
        way = ways.way_at(1)
        longer = places(book, [((), 0), ((), 1), ((0,), 1), ((0,), 0), ((0, 0), 0), ((0, 0, 0), 0), ((0, 0, 0), 1)])
        twice = [way[0], way[1], way[0]] + way[1:]
        wrong = [way[:-1], way[1:], way[::-1], way + [book.place((0, 0, 0, 0), 1)], longer, twice, way + [way[-1]],
                 [way[0]] + way[2:], way[:1] * 5, [rails().place((), 0)] + way[1:],
                 way[:-1] + [rails().place((0, 0, 0), 1)], way[:2] + [None] + way[3:], [(0, 0)], [way],
                 way + [None], way[:-1] + [book.place((0,) * 3000, 0)]]
        for value in wrong + any_values():
            with self.assertRaises(NotShortest) as caught:
                ways.number_of(value)
            self.assertIs(caught.exception.way, value)
        again = [ladder().place(place.row, place.number) for place in way]
        self.assertEqual(ways.number_of(again), 1)

    def test_ways_of_two_thousand_places(self):
        book = ladder()
        for many, side in ((1999, 0), (1998, 1)):
            ways = Ways(book.place((0,) * many, 0), book.place((), side))
            self.assertEqual(len(ways.way_at(0)), 2000)
            self.assertEqual(ways.number_of(ways.way_at(ways.total() - 1)), ways.total() - 1)
        for many, side in ((2000, 0), (1999, 1)):
            ways = Ways(book.place((0,) * many, 0), book.place((), side))
            with self.assertRaises(TooMany) as caught:
                ways.way_at(0)
            self.assertEqual(caught.exception.most, 2000)
            with self.assertRaises(NoSuch):
                ways.way_at(ways.total())

    def test_how_many_ways_are_through_a_place_far_down(self):
        book = ladder()
        ways = Ways(book.place((), 0), book.place((0,) * 2000, 1))
        self.assertEqual(ways.total(), 2001)
        self.assertEqual(ways.through(book.place((0,) * 700, 0)), 2000 - 700 + 1)
        self.assertEqual(ways.through(book.place((0,) * 700, 1)), 701)

    def test_numbers_of_ways_beyond_ten_to_the_hundred(self):
        book = strip()
        end = book.place((0,) * 400, 2)
        ways = Ways(book.place((), 0), end)
        self.assertEqual((ways.total(), ways.length, ways.fewest_ties()), (2 ** 400, 800, 800))
        self.assertEqual(ways.through(book.place((0,) * 7, 0)), 2 ** 399)
        rng = random.Random(3)
        for number in [0, 1, 2 ** 400 - 1, 2 ** 399] + [rng.randrange(2 ** 400) for _ in range(4)]:
            way = ways.way_at(number)
            bits = "".join(str(place.number) for place in way[1::2])
            self.assertEqual(int(bits, 2), number)
            self.assertEqual(ways.number_of(way), number)
        with self.assertRaises(NoSuch):
            ways.way_at(2 ** 400)

    def test_diamonds_within_kinds_and_trees(self):
        pieces = {"s": Piece(0, "..", [], [("a", (0, 1)), ("t", (0,))])}
        for kind, below in zip("ab", "bc"):
            pieces[kind] = Piece(2, "....", [(0, 1, 1), (2, 3, 1)],
                                 [(below, ("a", 0)), (below, (1, 2)), (below, (3, "b")), (below, (2, "b"))])
        pieces["c"] = Piece(2, "......", [("a", at, 1) for at in range(6)] + [("b", at, 1) for at in range(6)])
        pieces["t"] = Piece(1, "..", [("a", 0, 1), ("a", 1, 1)], [("t", (0,)), ("t", (1,))])
        book = Book("s", pieces)
        ways = Ways(book.place((), 0), book.place((), 1))
        # Three of b, three of c in each, with one tie between: the bud behind a second tie is no shorter way.
        self.assertEqual((ways.length, ways.total(), ways.fewest_ties()), (22, 6 ** 9, 22))
        leaf, other = (1,) + (0, 1) * 30, (1,) + (1, 0) * 30
        tree = Ways(book.place(leaf, 1), book.place(other, 0))
        self.assertEqual((tree.total(), tree.length, len(tree.way_at(0))), (1, 122, 123))
        self.assertEqual(tree.number_of(tree.way_at(0)), 0)
        whole = Ways(book.place(leaf, 1), book.place((), 1))
        self.assertEqual((whole.total(), whole.length), (ways.total(), ways.length + 61))
        rng = random.Random(8)
        for number in [rng.randrange(ways.total()) for _ in range(20)]:
            self.assertEqual(whole.number_of(whole.way_at(number)), number)
            self.assertEqual(names(whole.way_at(number)[61:]), names(ways.way_at(number)))

    def test_other_books(self):
        one, other = ladder().place((), 0), ladder().place((0,), 1)
        with self.assertRaises(OtherBook):
            Ways(one, rails().place((0,), 1))
        ways = Ways(one, other)
        with self.assertRaises(OtherBook):
            ways.through(rails().place((), 0))
        self.assertEqual(ways.total(), 2)
        between = Ways(rails().place((), 0), rails().place((0,), 1))
        self.assertEqual((between.length, between.total(), ways.total(), ways.length), (3, 1, 2, 2))
        self.assertEqual(ways.through(ladder().place((), 1)), 1)

    def test_no_way_even_of_another_book(self):
        book = Book("s", {"s": Piece(0, "..", [], [("k", (0,))]), "k": Piece(1, ".")})
        with self.assertRaises(NotJoined):
            Ways(book.place((), 0), book.place((), 1))
        with self.assertRaises(NotJoined):
            Ways(other=book.place((), 1), one=book.place((0,), 0))

    def test_names_of_arguments_and_new_lists(self):
        book = ladder()
        ways = Ways(other=book.place((0,), 1), one=book.place((), 0))
        ways.way_at(number=0).clear()
        self.assertEqual(len(ways.way_at(0)), 3)
        self.assertEqual(ways.number_of(way=ways.way_at(1)), 1)
        self.assertEqual(ways.through(place=book.place((), 1)), 1)
