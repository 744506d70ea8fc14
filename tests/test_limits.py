"""[61]: the limits to which callers go, as far as rows, loops, places, times and tales go."""

import random
import unittest

from growwebs.books import Book
from growwebs.pieces import Piece
from growwebs.rows import Loop, Row
from growwebs.tales import Tale
from growwebs.times import Times
from tests.webs import twigs

FAR = 10 ** 300


def random_row(rng, buds, most=FAR):
    """A Row of 20 stretches, and its first numbers and how many it has."""
    stretches = [(tuple(rng.randrange(buds) for _ in range(rng.randint(1, 40))), rng.randrange(most))
                 for _ in range(20)]
    return Row(stretches)


class LimitsTest(unittest.TestCase):

    def test_sums_that_forty_stretches_tell(self):
        rng = random.Random(2)
        one, other = random_row(rng, 4), random_row(rng, 4)
        total = one + other
        self.assertEqual(total.total(), one.total() + other.total())
        for index in (0, one.total() - 1, one.total() // 3):
            self.assertEqual(total.bud(index), one.bud(index))
        for index in (0, other.total() - 1, other.total() // 7):
            self.assertEqual(total.bud(one.total() + index), other.bud(index))
        self.assertTrue(total.beginning(one.total()) == one)
        self.assertTrue(total.behind(one.total()) == other)
        self.assertEqual(total.common(one), one.total())
        self.assertTrue(one.before(total))
        self.assertTrue(total == one.beginning(99) + (one.behind(99) + other))

    def test_places_and_loops_with_forty_stretches(self):
        rng = random.Random(3)
        book = twigs()
        head, tail = random_row(rng, 2), random_row(rng, 2)
        first = Row([((0,), 1)])
        place = book.place(first + head + tail, "a")
        self.assertEqual(place.number, tail.bud(tail.total() - 1))
        self.assertTrue(place.row == (first + head + tail).beginning(head.total() + tail.total()))
        loop = Loop(head, (0, 1) * 20, tail)
        for number in (0, 1, FAR):
            row = loop.row_at(number)
            self.assertEqual(row.total(), head.total() + 40 * number + tail.total())
            self.assertEqual(book.kind_at(first + row), "t")
            self.assertTrue(row.behind(head.total() + 40 * number) == tail)

    def test_kinds_along_rows_of_many_stretches(self):
        # Bud 0 goes round by five kinds, bud 1 by four: a plain walk tells the same.
        kinds = "bcdef"
        pieces = {kind: Piece(1, ".", [("a", 0, 1)], [(kinds[(at + 1) % 5], (0,)), (kinds[(at + 1) % 4], (0,))])
                  for at, kind in enumerate(kinds)}
        book = Book("s", dict(pieces, s=Piece(0, ".", [], [("b", (0,)), ("c", (0,))])))
        rng = random.Random(4)
        for _ in range(50):
            row = random_row(rng, 2, 30)
            numbers = row.plain(most=100000)
            kind = "s"
            for number in numbers:
                kind = book.pieces[kind].buds[number][0]
            self.assertEqual(book.kind_at(row), kind)
            self.assertEqual(book.kind_at(numbers), kind)
            self.assertTrue(book.place(numbers, 0) == book.place(row, 0))

    def test_signs_that_give_two_thousand_spans(self):
        full = ~Times(2400, [(6 * rest, 0, None) for rest in range(400)])
        self.assertFalse(full.endless is False)
        self.assertEqual(full.ending(), (0, 6, (1, 2, 3, 4, 5)))
        odd = ~Times(2400, [(6 * rest + rest % 5, 0, None) for rest in range(400)])
        self.assertEqual(odd.up_to(2399), 2000)
        self.assertEqual((odd & Times(10000 // 25, [(7, 0, None)])).up_to(2399), len(
            [n for n in range(7, 2400, 400) if n in odd]))
        self.assertTrue(odd | ~odd == Times(1, [(0, 0, None)]))

    def test_moduli_with_ten_thousand_as_common_multiple(self):
        one = Times(625, [(rest, rest * 10 ** 50, None) for rest in range(400)])
        other = Times(16, [(3, 0, FAR), (4, FAR, None)])
        both = one & other
        for n in (10 ** 100 - 10 ** 100 % 10000 + 3, 10 ** 100 - 10 ** 100 % 10000 + 403,
                  2 * FAR - 2 * FAR % 10000 + 20, FAR - 13):
            self.assertIs(n in both, n in one and n in other)
        self.assertEqual(both.ending()[1], 10000)
        self.assertTrue(both == other - (other - one))

    def test_tales_of_the_greatest_size(self):
        rng = random.Random(5)
        tale = Tale([None] * 2000, [[(k * 10 ** 300, 10 ** 400 - k * k) for k in range(400)]] * 6)
        other = Tale([5] * 1999, [[(rng.randrange(10 ** 700), rng.randrange(10 ** 690)) for _ in range(400)]
                                  for _ in range(6)])
        whole = tale.below(other) | other.below(tale) | tale.meets(other)
        self.assertTrue(whole == Times(1, [(0, 0, None)]))
        self.assertEqual(tale.silent().ending(), (2000, 1, ()))
        total = tale + other
        for n in (0, 2000, 2005, FAR):
            self.assertEqual(total(n), None if n == 0 else tale(n) + other(n))
