"""[2], [5], [62]: unfolding: a bud is replaced by the piece of its kind, and the web stays the same."""

import unittest

from growwebs.books import Book
from growwebs.cuts import Bridges, Cuts, joined
from growwebs.distances import distance
from growwebs.ends import ends
from growwebs.errors import NoBud, NoKind, OtherBook, TooGreat, TooLong, TooMany
from growwebs.folds import Unfolding
from growwebs.growth import growth
from growwebs.leads import Leads
from growwebs.marks import Marks
from growwebs.pairings import Pairings
from growwebs.pieces import Piece
from growwebs.rows import Row
from growwebs.sames import parting, same
from growwebs.sights import Sight
from growwebs.ways import Ways
from tests.plain_leads import random_rules
from tests.values import any_values
from tests.webs import bare_books, hander, ladder, names, nest, rails, random_books, strip, tent, twigs


def unfoldings(books):
    """All Unfoldings of some books that are not too great."""
    for book in books:
        for kind in book.pieces:
            for number in range(len(book.pieces[kind].buds)):
                try:
                    yield Unfolding(book, kind, number)
                except TooGreat:
                    continue


def some(seed, many):
    return list(unfoldings([ladder(), rails(), strip(), hander(), twigs()] + random_books(seed, many) + bare_books(seed, many // 2)))


def near(book, depth=2, most=12):
    return book.grown(depth)[0][:most]


class UnfoldingTest(unittest.TestCase):

    def test_the_example(self):
        book = ladder()
        told = Unfolding(book, "rung", 0)
        piece = told.result.pieces["rung"]
        self.assertEqual((len(piece.letters), len(piece.buds)), (4, 1))
        self.assertEqual(told.led(book.place((0, 0), 1)), told.result.place((0,), 3))
        self.assertEqual(told.led(book.place((0, 0, 0), 0)), told.result.place((0, 0), 0))
        self.assertIs(same(book, told.result), False)
        self.assertEqual(parting(book, told.result), ((0,), 2))
        self.assertEqual((told.book, told.kind, told.bud_number), (book, "rung", 0))
        self.assertIsInstance(told.result, Book)

    def test_the_piece_that_grows_its_own_kind(self):
        told = Unfolding(ladder(), "rung", 0)
        self.assertEqual(told.result.pieces["rung"], Piece(2, "....", [
            ("a", 0, 1), ("b", 1, 1), (0, 1, 1), (0, 2, 1), (1, 3, 1), (2, 3, 1)], [("rung", (2, 3))]))
        self.assertEqual(told.result.pieces["base"], ladder().pieces["base"])

    def test_the_buds_in_their_order(self):
        book = Book("s", {"s": Piece(0, "xyz", [(0, 1, 5)], [("p", (0,)), ("q", (2, 0, 1)), ("p", (1,))]),
                          "q": Piece(3, "u", [("a", 0, 7), ("c", 0, 8)], [("p", ("b",)), ("r", ("c", 0))]),
                          "p": Piece(1, "."), "r": Piece(2, "")})
        told = Unfolding(book, "s", 1)
        self.assertEqual(told.result.pieces["s"], Piece(0, "xyzu", [(0, 1, 5), (2, 3, 7), (1, 3, 8)],
                                                        [("p", (0,)), ("p", (0,)), ("r", (1, 3)), ("p", (1,))]))
        for row, number, led, there in (((0,), 0, (0,), 0), ((1,), 0, (), 3), ((1, 0), 0, (1,), 0), ((2,), 0, (3,), 0),
                                        ((), 2, (), 2)):
            self.assertEqual(told.led(book.place(row, number)), told.result.place(led, there))
            self.assertEqual(told.back(told.result.place(led, there)), book.place(row, number))

    def test_places_ties_and_letters(self):
        for told in some(62, 60):
            book, result = told.book, told.result
            for place in near(book, 3, 40):
                led = told.led(place)
                self.assertEqual(led.book, result)
                self.assertEqual(result.letter_of(led), book.letter_of(place))
                self.assertEqual(told.back(led), place)
                ties = {(other.row, other.number): length for other, length in result.neighbours(led)}
                want = {}
                for other, length in book.neighbours(place):
                    there = told.led(other)
                    want[(there.row, there.number)] = length
                self.assertEqual(ties, want)
            for place in near(result, 2, 40):
                self.assertEqual(told.led(told.back(place)), place)
                self.assertEqual(book.letter_of(told.back(place)), result.letter_of(place))

    def test_all_places_are_led_to(self):
        for told in some(621, 40):
            led = {(place.row, place.number) for place in map(told.led, told.book.grown(6, most=10 ** 6)[0])}
            self.assertEqual(len(led), len(told.book.grown(6, most=10 ** 6)[0]))
            self.assertTrue(set(names(told.result.grown(3, most=10 ** 6)[0])) <= led)

    def test_distances_ways_and_cuts(self):
        for told in some(622, 25):
            places = near(told.book, 2, 30)
            for one in places[:3]:
                for other in places[-4:]:
                    led, there = told.led(one), told.led(other)
                    self.assertEqual(distance(led, there), distance(one, other))
                    self.assertEqual(joined(led, there), joined(one, other))
                    if joined(one, other):
                        ways, others = Ways(one, other), Ways(led, there)
                        self.assertEqual((others.length, others.total(), others.fewest_ties()),
                                         (ways.length, ways.total(), ways.fewest_ties()))
                        cuts, there_cuts = Cuts(one, other), Cuts(led, there)
                        self.assertEqual([there_cuts.cut_at(at) for at in range(there_cuts.total())],
                                         [told.led(cuts.cut_at(at)) for at in range(cuts.total())])
                        self.assertEqual(Bridges(led, there).total(), Bridges(one, other).total())

    def test_sights_growth_ends_and_nearest_letters(self):
        for told in some(623, 30):
            marks, others = Marks(told.book), Marks(told.result)
            for place in near(told.book, 2, 5):
                led = told.led(place)
                try:
                    sight, other = Sight(place), Sight(led)
                except TooMany:
                    continue
                self.assertEqual([other.at(n) for n in range(30)], [sight.at(n) for n in range(30)])
                self.assertEqual([other.lettered("a", n) for n in range(20)], [sight.lettered("a", n) for n in range(20)])
                self.assertEqual(growth(led).degree, growth(place).degree)
                here, there = ends(place), ends(led)
                self.assertEqual((there.amount, sum(many for _, _, many in there.rows), len(there.rows)),
                                 (here.amount, sum(many for _, _, many in here.rows), len(here.rows)))
                for letter in "abx.":
                    near_one, near_other = marks.nearest(place, letter), others.nearest(led, letter)
                    self.assertEqual(near_one and near_one[:2], near_other and near_other[:2])
            for letter in "abx.":
                self.assertEqual(marks.total(letter), others.total(letter))

    def test_leads_and_pairings(self):
        for told, rule in zip(some(624, 60), random_rules(624, 400)):
            leads, others = Leads(told.book, rule), Leads(told.result, rule)
            self.assertEqual((leads.exists, leads.is_endless), (others.exists, others.is_endless))
            if not leads.is_endless:
                self.assertEqual(leads.how_many(10 ** 9), others.how_many(10 ** 9))
            pairings, there = Pairings(told.book), Pairings(told.result)
            self.assertEqual(pairings.exists, there.exists)
            for place in near(told.book, 2, 8):
                self.assertEqual(leads.colours_of(place), others.colours_of(told.led(place)))
                want = [told.led(partner) for partner in pairings.partners(place)]
                self.assertEqual(sorted(names(want)), sorted(names(there.partners(told.led(place)))))

    def test_no_kind_and_no_bud(self):
        book = ladder()
        for value in any_values() + ["rungs", ["rung"]]:
            with self.assertRaises(NoKind) as caught:
                Unfolding(book, value, value)
            self.assertIs(caught.exception.kind, value)
            if value != 0 or isinstance(value, bool):
                with self.assertRaises(NoBud) as caught:
                    Unfolding(book, "rung", value)
                self.assertEqual(caught.exception.kind, "rung")
                self.assertIs(caught.exception.number, value)
        with self.assertRaises(NoBud):
            Unfolding(tent(), number=0, kind="k")
        for number in (-1, 1):
            with self.assertRaises(NoBud):
                Unfolding(book, "base", number)

    def test_too_great_at_the_very_bound(self):
        def book(new, many, below_new, below_many):
            return Book("s", {"s": Piece(0, "." * new, [], [("p", (0,))] * many),
                              "p": Piece(1, "." * below_new, [], [("e", ("a",))] * below_many), "e": Piece(1, "")})
        for numbers, right in (((3, 1, 3, 1), True), ((3, 1, 4, 1), False), ((6, 1, 0, 4), True), ((6, 1, 1, 4), False),
                               ((1, 4, 0, 1), True), ((1, 4, 0, 2), False), ((1, 2, 1, 3), True), ((1, 2, 1, 4), False),
                               ((1, 4, 5, 0), True)):
            if right:
                piece = Unfolding(book(*numbers), "s", numbers[1] - 1).result.pieces["s"]
                self.assertEqual((len(piece.letters), len(piece.buds)),
                                 (numbers[0] + numbers[2], numbers[1] - 1 + numbers[3]))
            else:
                with self.assertRaises(TooGreat):
                    Unfolding(book(*numbers), "s", 0)

    def test_long_rows_and_other_books(self):
        book = ladder()
        told = Unfolding(book, "rung", 0)
        self.assertEqual(told.led(book.place((0,) * 2000, 1)), told.result.place((0,) * 1000, 3))
        self.assertEqual(told.back(told.result.place((0,) * 2000, 1)).row, Row([((0,), 3999)]))
        self.assertEqual(told.back(told.result.place((0,) * 2000, 3)).row, Row([((0,), 4000)]))
        self.assertEqual(told.back(told.result.place((0,) * 1000, 3)).row, (0,) * 2000)
        for call, place in ((told.led, book.place((0,) * 2001, 0)), (told.back, told.result.place((0,) * 2001, 0))):
            with self.assertRaises(TooLong) as caught:
                call(place)
            self.assertEqual(caught.exception.length, 2001)
        for call, place in ((told.led, told.result.place((0,) * 2001, 0)), (told.back, book.place((0,) * 2001, 0)),
                            (told.led, rails().place((), 0)), (told.back, rails().place((), 0))):
            with self.assertRaises(OtherBook):
                call(place)

    def test_the_book_is_as_it_was(self):
        book = nest()
        Unfolding(book, "d", 1)
        self.assertEqual(book, nest())
        one, other = Unfolding(book, "s", 0), Unfolding(number=0, kind="s", book=book)
        self.assertEqual(one.result, other.result)
        self.assertNotEqual(one, other)


if __name__ == "__main__":
    unittest.main()
