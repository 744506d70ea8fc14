"""[39] to [43], [50], [51], [53]: all lengths of a book multiplied by one number."""

import unittest

from growwebs.books import Book
from growwebs.cuts import Bridges, Cuts, is_cut, joined
from growwebs.distances import distance, is_between, next_places
from growwebs.ends import ends
from growwebs.far import far_distance, tale_between, tale_to
from growwebs.growth import growth
from growwebs.inner import Inside
from growwebs.marks import Marks
from growwebs.pieces import Piece
from growwebs.reasons import Reason, reason, reason_holds
from growwebs.routes import route, route_length
from growwebs.rows import Loop
from growwebs.sights import Sight
from growwebs.tales import Tale
from growwebs.ways import Ways
from growwebs.errors import TooFar, TooMany
from tests.webs import bare_books, hander, ladder, names, nest, rails, random_books, strip, twigs


def longer(book, many):
    """The same book with all lengths many times as great."""
    pieces = {}
    for kind, piece in book.pieces.items():
        ties = [(one, other, length * many) for one, other, length in piece.ties]
        pieces[kind] = Piece(piece.mouth, piece.letters, ties, piece.buds)
    return Book(book.seed, pieces)


def times(value, many):
    return None if value is None else value * many


def books():
    return [ladder(), rails(), strip((1, 2)), nest(), hander(), twigs()] + random_books(5050, 40) + bare_books(5050, 30)


def pairs(book, many=7):
    """Some pairs of names of places of a book."""
    found = names(book.grown(2)[0])[:30]
    return [(one, other) for one in found[:3] for other in found[-many:]]


class MultiplesTest(unittest.TestCase):

    def test_distances_and_what_lies_between(self):
        for book in books():
            for many in (3, 10 ** 40):
                other = longer(book, many)
                for first, second in pairs(book):
                    one, two = book.place(*first), book.place(*second)
                    with_one, with_two = other.place(*first), other.place(*second)
                    far = times(distance(one, two), many)
                    self.assertEqual(distance(with_one, with_two), far)
                    self.assertEqual(far_distance(other, with_one, with_two), far)
                    self.assertEqual(names(next_places(with_one, with_two)), names(next_places(one, two)))
                    middle = book.grown(1)[0][-1]
                    self.assertEqual(is_between(other.place(middle.row, middle.number), with_one, with_two),
                                     is_between(middle, one, two))

    def test_inner_lengths(self):
        for book in books():
            inside, other = Inside(book), Inside(longer(book, 7))
            for kind, piece in book.pieces.items():
                self.assertEqual(inside.together(kind), other.together(kind))
                for one in "abc"[:piece.mouth]:
                    for two in "abc"[:piece.mouth]:
                        self.assertEqual(other.least(kind, one, two), times(inside.least(kind, one, two), 7))
                        if one != two and inside.stretch(kind, one, two) is not None:
                            length, number = inside.stretch(kind, one, two)
                            self.assertEqual(other.stretch(kind, one, two), (7 * length, number))

    def test_ways_cuts_and_bridges(self):
        for book in books():
            other = longer(book, 5)
            for first, second in pairs(book, 4):
                one, two = book.place(*first), book.place(*second)
                with_one, with_two = other.place(*first), other.place(*second)
                self.assertEqual(joined(with_one, with_two), joined(one, two))
                if not joined(one, two):
                    continue
                ways, others = Ways(one, two), Ways(with_one, with_two)
                self.assertEqual((others.length, others.total(), others.fewest_ties()),
                                 (ways.length * 5, ways.total(), ways.fewest_ties()))
                self.assertEqual(names(others.way_at(ways.total() - 1)), names(ways.way_at(ways.total() - 1)))
                cuts, bridges = Cuts(one, two), Bridges(one, two)
                self.assertEqual(Cuts(with_one, with_two).total(), cuts.total())
                self.assertEqual(Bridges(with_one, with_two).total(), bridges.total())
                if cuts.total():
                    cut = cuts.cut_at(0)
                    self.assertTrue(is_cut(other.place(cut.row, cut.number), with_one, with_two))

    def test_heights_and_routes(self):
        for book in books()[:25]:
            other = longer(book, 9)
            for first, second in pairs(book, 3):
                one, two = book.place(*first), book.place(*second)
                if not joined(one, two):
                    continue
                told = reason(one, two)
                kinds = {kind: [[9 * height for height in heights] for heights in told.kinds[kind]]
                         for kind in told.kinds}
                rows = {row: [9 * height for height in told.rows[row]] for row in told.rows}
                with_one, with_two = other.place(*first), other.place(*second)
                self.assertTrue(reason_holds(with_one, with_two, Reason(9 * told.length, kinds, rows)))
                # What fits within short ties fits within long ones, but not the other way about.
                self.assertTrue(reason_holds(with_one, with_two, Reason(told.length, told.kinds, told.rows)))
                self.assertEqual(reason_holds(one, two, Reason(9 * told.length, kinds, rows)), told.length == 0)
                self.assertEqual(route_length(with_one, with_two, route(one, two)), 9 * told.length)

    def test_tales(self):
        for book in books():
            other = longer(book, 11)
            for head, word in (((), (0,)), ((0,), (0,)), ((0,), (1,)), ((1,), (0,)), ((0, 0), (0, 0))):
                try:
                    same = book.kind_at(head) == book.kind_at(head + word)
                except ValueError:
                    continue
                if not same or not book.pieces[book.kind_at(head)].letters:
                    continue
                loop, start = Loop(head, word, ()), book.grown(0)[0][-1]
                told = tale_to(book, start, loop, 0)
                far = tale_to(other, other.place((), start.number), loop, 0)
                self.assertEqual([far(at) for at in range(12)], [times(told(at), 11) for at in range(12)])
                self.assertEqual(far, Tale([times(value, 11) for value in told.early],
                                           [[(11 * worth, 11 * rise) for worth, rise in lines] for lines in told.lines]))
                between = tale_between(book, loop, 0, word, 0)
                self.assertEqual([tale_between(other, loop, 0, word, 0)(at) for at in (0, 1, 5, 10 ** 30)],
                                 [times(between(at), 11) for at in (0, 1, 5, 10 ** 30)])

    def test_sights(self):
        for book in books():
            other = longer(book, 3)
            for first in names(book.grown(1)[0])[:3]:
                try:
                    sight, far = Sight(book.place(*first)), Sight(other.place(*first))
                except TooMany:
                    continue
                self.assertEqual([(place.row, place.number, length) for place, length in far.near],
                                 [(place.row, place.number, 3 * length) for place, length in sight.near])
                self.assertEqual(far.entries, tuple((row, bud, 3 * shift, at) for row, bud, shift, at in sight.entries))
                self.assertEqual([stand.gaps for stand in far.stands],
                                 [tuple(3 * gap for gap in stand.gaps) for stand in sight.stands])
                self.assertEqual(far.reach, 3 * (sight.reach - 1) + 1)
                for n in range(12):
                    self.assertEqual(far.at(3 * n), sight.at(n))
                    self.assertEqual((far.at(3 * n + 1), far.at(3 * n + 2)), (0, 0))
                    self.assertEqual(far.within(3 * n + 2), sight.within(n))
                    self.assertEqual(far.lettered("a", 3 * n), sight.lettered("a", n))

    def test_degrees_and_ends(self):
        for book in books():
            other = longer(book, 10 ** 50)
            for place in book.grown(1)[0][:4]:
                with_place = other.place(place.row, place.number)
                self.assertEqual(growth(with_place).degree, growth(place).degree)
                self.assertEqual(vars(ends(with_place)), vars(ends(place)))

    def test_nearest_letters(self):
        for book in books():
            marks, others = Marks(book), Marks(longer(book, 13))
            far = book.grown(1)[0][-1]
            marks[far] = "s"
            others[others.book.place(far.row, far.number)] = "s"
            for place in book.grown(1)[0][:4]:
                for letter in "abs.":
                    told = marks.nearest(place, letter)
                    with_place = others.nearest(others.book.place(place.row, place.number), letter)
                    if told is None:
                        self.assertIsNone(with_place)
                    else:
                        self.assertEqual((with_place[0], with_place[1], names(with_place[2:])),
                                         (13 * told[0], told[1], names(told[2:])))

    def test_sights_too_far(self):
        book = longer(ladder(), 500)
        self.assertEqual(Sight(book.place((), 0)).at(1000), 2)
        with self.assertRaises(TooFar):
            Sight(book.place((), 0)).same_numbers(Sight(book.place((), 1)))


if __name__ == "__main__":
    unittest.main()
