"""[2], [11], [43], [61]: places and ties on every way."""

import random
import unittest

from growwebs.books import Book
from growwebs.cuts import Bridges, Cuts, is_cut, joined
from growwebs.errors import NoSuch, NotJoined, NotOnAll, OtherBook
from growwebs.pieces import Piece
from tests.values import any_values
from tests.webs import hander, ladder, names, near_web, nest, rails, random_books, strip, tent, twigs


def all_cuts(cuts):
    return [cuts.cut_at(number) for number in range(cuts.total())]


def all_bridges(bridges):
    return [bridges.bridge_at(number) for number in range(bridges.total())]


def parting():
    """Books in which three ways part at a place, at a mouth place, or in a part with rounds."""
    star = Piece(3, "..", [("a", 0, 1), (0, 1, 1), ("b", 1, 1), ("c", 1, 1)])
    row = Piece(3, ".", [("a", 0, 1), (0, "b", 1)], [("t", ("b", "c"))])
    ring = Piece(3, "......", [("a", 0, 1), (0, 3, 1), ("b", 1, 1), (1, 4, 1), ("c", 2, 1), (2, 5, 1),
                               (3, 4, 1), (4, 5, 1), (3, 5, 1)])
    inner = Piece(3, "...", [("a", 0, 1), ("b", 1, 1)], [("x", (0, 1, 2)), ("t", (2, "c"))])
    touching = Piece(3, ".", [(0, "b", 1), (0, "c", 1)], [("x", ("a", 0, "b"))])
    books = []
    for kind in (star, row, ring):
        for outer in (inner, touching):
            for seed in (Piece(0, "...", [], [("y", (0, 1, 2))]), Piece(0, "...", [(0, 1, 1)], [("y", (0, 1, 2))])):
                books.append(Book("s", {"s": seed, "x": kind, "y": outer,
                                        "t": Piece(2, ".", [("a", 0, 1), (0, "b", 1)])}))
    return books


class CutsTest(unittest.TestCase):

    def test_the_examples(self):
        book = twigs()
        one, other = book.place((0, 0), 1), book.place((0, 1), 0)
        cuts, bridges = Cuts(one, other), Bridges(one, other)
        self.assertEqual(names(all_cuts(cuts)), [((0,), 0), ((), 0), ((0,), 1)])
        self.assertEqual(bridges.total(), 4)
        self.assertEqual(names(bridges.bridge_at(0)), [((0, 0), 1), ((0,), 0)])
        self.assertIsInstance(bridges.bridge_at(0), tuple)
        book = ladder()
        self.assertEqual(Cuts(book.place((), 0), book.place((0, 0), 1)).total(), 0)
        self.assertTrue(cuts.one == one and cuts.other == other and bridges.one == one and bridges.other == other)

    def check_pair(self, book, web, one, other, rng):
        """Compare with a plain search with each place and each tie taken out; how many there are."""
        begin, end = book.place(*one), book.place(*other)
        if not web.joins(one, other):
            for call in (Cuts, Bridges):
                with self.assertRaises(NotJoined):
                    call(begin, end)
            self.assertFalse(joined(begin, end))
            return None
        way = list(web.ways(one, other)[0])
        wanted = [name for name in way[1:-1] if not web.joins(one, other, [name])]
        pairs = [pair for pair in zip(way, way[1:]) if not web.joins(one, other, (), pair)]
        cuts, bridges = Cuts(begin, end), Bridges(begin, end)
        self.assertEqual(names(all_cuts(cuts)), wanted)
        self.assertEqual([tuple(names(pair)) for pair in all_bridges(bridges)], pairs)
        self.assertEqual((cuts.total(), bridges.total()), (len(wanted), len(pairs)))
        for number, name in enumerate(wanted):
            self.assertEqual(cuts.number_of(book.place(*name)), number)
        for number, pair in enumerate(pairs):
            places = [book.place(*name) for name in pair]
            self.assertEqual(bridges.number_of(places), number)
            self.assertEqual(bridges.number_of(tuple(places)), number)
            with self.assertRaises(NotOnAll):
                bridges.number_of(places[::-1])
        for name in way + rng.sample(sorted(web.letters), min(5, len(web.letters))):
            place = book.place(*name)
            self.assertIs(is_cut(place, begin, end), name in wanted)
            if name not in wanted:
                with self.assertRaises(NotOnAll):
                    cuts.number_of(place)
        return len(wanted)

    def test_against_a_plain_search(self):
        counts = []
        books = [hander(), ladder(), rails(), tent(), twigs(), strip()] + parting() \
            + random_books(71, 120, (1,)) + random_books(72, 60)
        for seed, book in enumerate(books):
            rng = random.Random(seed)
            web, near = near_web(book, most=1500)
            for _ in range(6):
                one, other = rng.choice(near), rng.choice(near)
                counts.append(self.check_pair(book, web, one, other, rng))
                self.assertEqual(self.check_pair(book, web, other, one, rng), counts[-1])
        self.assertGreater(counts.count(None), 100)
        self.assertGreater(len([many for many in counts if many]), 150)
        self.assertGreater(max(many for many in counts if many), 4)

    def test_joined_without_some_places(self):
        ways = bars = 0
        for seed, book in enumerate([hander(), ladder(), tent(), twigs(), strip()] + random_books(73, 80, (1,))):
            rng = random.Random(seed)
            web, near = near_web(book, most=1500)
            for many in (0, 1, 2, 3, 5, 20):
                one, other = rng.choice(near), rng.choice(near)
                without = [rng.choice(near) for _ in range(many)]
                if many < 5:
                    without = [name for name in without if name not in (one, other)]
                want = web.joins(one, other, without)
                places = [book.place(*rng.choice([(row, told) for row in web.lies[name] for told in list("abc") + [0, 1, 2]
                                                  if len(row) < 6 and web.told.get((row, told)) == name]))
                          for name in without]
                self.assertIs(joined(book.place(*one), book.place(*other), places), want)
                self.assertIs(joined(book.place(*other), book.place(*one), tuple(places + places[:1])), want)
                ways += want
                bars += not want
        self.assertGreater(min(ways, bars), 100)

    def test_the_two_themselves(self):
        book = ladder()
        one, other = book.place((), 0), book.place((0,), 1)
        self.assertTrue(joined(one, other) and joined(one, one) and joined(one, other, [book.place((), 1)]))
        self.assertFalse(joined(one, other, [one]) or joined(one, other, [other]) or joined(one, one, (one,)))
        self.assertFalse(joined(one, other, [book.place((), 1), book.place((0,), 0)]))
        self.assertFalse(is_cut(one, one, other) or is_cut(other, one, other) or is_cut(one, one, one))
        book = rails()
        self.assertTrue(is_cut(book.place((0,), 0), book.place((), 0), book.place((0, 0), 0)))
        apart = Book("s", {"s": Piece(0, "...", [(0, 1, 1)])})
        self.assertFalse(is_cut(apart.place((), 0), apart.place((), 1), apart.place((), 2)))
        for call in (Cuts, Bridges):
            self.assertEqual(call(one, ladder().place((), 0)).total(), 0)
            with self.assertRaises(NoSuch):
                call(one, one).cut_at(0) if call is Cuts else call(one, one).bridge_at(0)

    def test_cuts_far_within_kinds(self):
        pieces = {"s": Piece(0, "..", [], [("a", (0, 1))])}
        for kind, below in zip("abcd", "bcde"):
            pieces[kind] = Piece(2, "...", [], [(below, ("a", 0)), (below, (0, 1)), (below, (2, 1)), (below, (2, "b"))])
        pieces["e"] = Piece(2, "......", [("a", 0, 1)] + [(at, at + 1, 1) for at in range(5)] + [(5, "b", 1)])
        book = Book("s", pieces)
        one, other = book.place((), 0), book.place((), 1)
        cuts, bridges = Cuts(one, other), Bridges(one, other)
        self.assertEqual((cuts.total(), bridges.total()), (7 * 4 ** 4 - 1, 7 * 4 ** 4))
        back, bridges_back = Cuts(other, one), Bridges(other, one)
        rng = random.Random(1)
        last = cuts.total() - 1
        for number in [0, 1, last, last // 2] + [rng.randrange(last) for _ in range(60)]:
            place = cuts.cut_at(number)
            self.assertEqual(cuts.number_of(place), number)
            self.assertTrue(back.cut_at(last - number) == place)
            pair = bridges.bridge_at(number)
            self.assertEqual(bridges.number_of(pair), number)
            self.assertTrue(pair[1] == cuts.cut_at(number) and (number == 0 or pair[0] == cuts.cut_at(number - 1)))
            turned = bridges_back.bridge_at(last + 1 - number)
            self.assertTrue(turned == (pair[1], pair[0]))
            self.assertTrue(is_cut(place, one, other))

    def test_parts_within_kinds_all_along_two_rows(self):
        # On each of the pieces on two rows of 60 two parts stand, four of the next kind within each.
        pieces = {"s": Piece(0, ".", [], [("t", (0,)), ("t", (0,))]),
                  "t": Piece(1, "..", [], [("t", (1,)), ("b", ("a", 0)), ("b", (0, 1))])}
        for kind, below in zip("bcd", "cde"):
            pieces[kind] = Piece(2, "...", [], [(below, ("a", 0)), (below, (0, 1)), (below, (1, 2)), (below, (2, "b"))])
        pieces["e"] = Piece(2, "......", [("a", 0, 1)] + [(at, at + 1, 1) for at in range(5)] + [(5, "b", 1)])
        book = Book("s", pieces)
        one, other = book.place((0,) * 60, 1), book.place((1,) + (0,) * 59, 1)
        cuts, bridges = Cuts(one, other), Bridges(one, other)
        many = 120 * 2 * 4 ** 3 * 7
        self.assertEqual((cuts.total(), bridges.total()), (many - 1, many))
        self.assertTrue(cuts.cut_at(many // 2 - 1) == book.place((), 0))
        rng = random.Random(4)
        for number in [0, many - 2] + [rng.randrange(many - 1) for _ in range(25)]:
            place, pair = cuts.cut_at(number), bridges.bridge_at(number)
            self.assertTrue(pair[1] == place)
            self.assertEqual((cuts.number_of(place), bridges.number_of(pair)), (number, number))
            with self.assertRaises(NotOnAll):
                bridges.number_of(pair[::-1])

    def test_totals_beyond_what_can_be_listed(self):
        # Each kind has mouths turned about further down: three triples for each kind.
        pieces = {"s": Piece(0, "...", [], [("k", (0, 1, 2))])}
        order = "klmno"
        for kind, below in zip(order, order[1:]):
            pieces[kind] = Piece(3, "......", [], [(below, ("a", 0, 1)), (below, (0, "b", 2)), (below, (3, 4, "c")),
                                                   (below, ("b", 5, 3))])
        pieces["o"] = Piece(3, "......", [("a", 0, 1), (0, 1, 1), (1, 2, 1), (2, 3, 1), (3, "b", 1), (2, 4, 1), (4, 5, 1),
                                          (5, "c", 1)])
        book = Book("s", pieces)
        for one, other in ((0, 1), (1, 2), (2, 0)):
            cuts, bridges = Cuts(book.place((), one), book.place((), other)), \
                Bridges(book.place((), one), book.place((), other))
            self.assertGreater(cuts.total(), 60)
            self.assertEqual(bridges.total(), cuts.total() + 1)
            walk = [book.place((), one)] + all_cuts(cuts) + [book.place((), other)]
            for number in range(bridges.total()):
                self.assertTrue(bridges.bridge_at(number) == (walk[number], walk[number + 1]))
                self.assertEqual(bridges.number_of([walk[number], walk[number + 1]]), number)
            self.assertEqual([cuts.number_of(place) for place in walk[1:-1]], list(range(cuts.total())))

    def test_long_rows(self):
        book = twigs()
        one, other = (0,) + (0, 1) * 30, (0,) + (1, 0) * 30
        for call, many in ((Cuts, 121), (Bridges, 122)):
            told = call(book.place(one[:60], 1), book.place(other[:60], 0))
            self.assertEqual(told.total(), many - 2)
        cuts = Cuts(book.place(one[:60], 1), book.place(other[:60], 0))
        self.assertTrue(cuts.cut_at(59) == book.place((), 0))
        self.assertEqual(cuts.number_of(book.place((0, 1), 0)), 61)
        far = ladder()
        self.assertTrue(joined(far.place((0,) * 2000, 0), far.place((), 1), [far.place((0,) * 777, 0)]))
        self.assertFalse(joined(far.place((0,) * 2000, 0), far.place((), 1),
                                [far.place((0,) * 777, 0), far.place((0,) * 777, 1)]))
        self.assertFalse(is_cut(far.place((0,) * 777, 0), far.place((0,) * 2000, 0), far.place((), 1)))

    def test_cuts_along_parts_without_end(self):
        # The rounds further and further down close at last: below them nothing is on every way.
        book = Book("s", {"s": Piece(0, "..", [], [("p", (0, 1))]),
                          "p": Piece(2, "....", [("a", 0, 1), ("b", 1, 1), (0, 2, 1), (2, 3, 1), (3, 1, 1)],
                                     [("p", (0, 1))])})
        cuts = Cuts(book.place((), 0), book.place((), 1))
        self.assertEqual(names(all_cuts(cuts)), [((0,), 0), ((0,), 1)])
        bridges = Bridges(book.place((), 1), book.place((), 0))
        self.assertEqual([tuple(names(pair)) for pair in all_bridges(bridges)],
                         [(((), 1), ((0,), 1)), (((0,), 0), ((), 0))])

    def test_wrong_values(self):
        book = twigs()
        one, other = book.place((0, 0), 1), book.place((0, 1), 0)
        cuts, bridges = Cuts(one, other), Bridges(one, other)
        for value in any_values():
            if isinstance(value, bool) or value not in (0, 1):
                with self.assertRaises(NoSuch) as caught:
                    cuts.cut_at(value)
                self.assertIs(caught.exception.number, value)
                with self.assertRaises(NoSuch):
                    bridges.bridge_at(value)
            for told in (cuts, bridges):
                with self.assertRaises(NotOnAll) as caught:
                    told.number_of(value)
                self.assertIs(caught.exception.value, value)
            with self.assertRaises(NotOnAll):
                bridges.number_of([value, one])
        for value in (-1, 3, 10 ** 100):
            with self.assertRaises(NoSuch):
                cuts.cut_at(value)
        with self.assertRaises(NoSuch):
            bridges.bridge_at(4)
        pair = bridges.bridge_at(1)
        for value in (pair[::-1], pair + pair[:1], pair[:1], (pair[0], pair[0]), [one, other], (pair[0], None),
                      [rails().place((), 0), pair[1]], (rails().place((), 0), rails().place((0,), 0))):
            with self.assertRaises(NotOnAll):
                bridges.number_of(value)
        for value in (one, other, rails().place((), 0), book.place((0,) * 3000, 0), book.place((0, 0), 0)):
            with self.assertRaises(NotOnAll):
                cuts.number_of(value)
        self.assertEqual(cuts.number_of(twigs().place((), 0)), 1)
        self.assertEqual(bridges.number_of([twigs().place((0, 0), 1), twigs().place((0,), 0)]), 0)

    def test_other_books(self):
        one, other, strange = ladder().place((), 0), ladder().place((0,), 1), rails().place((), 0)
        for call in (lambda: Cuts(one, strange), lambda: Bridges(strange, one), lambda: joined(one, strange),
                     lambda: joined(one, other, [other, strange]), lambda: is_cut(strange, one, other),
                     lambda: is_cut(one, strange, other), lambda: is_cut(one, other, strange)):
            with self.assertRaises(OtherBook):
                call()
        cuts = Cuts(rails().place((), 0), rails().place((0, 0), 0))
        self.assertEqual(Cuts(one, other).total(), 0)
        self.assertEqual((cuts.total(), Cuts(twigs().place((), 0), twigs().place((0, 0), 0)).total()), (1, 1))
        self.assertTrue(joined(without=(), other=other, one=one))
        self.assertTrue(is_cut(other=rails().place((0, 0), 0), one=rails().place((), 0), place=rails().place((0,), 0)))
        self.assertEqual(Bridges(other=other, one=one).total(), 0)
        self.assertTrue(cuts.cut_at(number=0) == rails().place((0,), 0))
        self.assertEqual(cuts.number_of(place=rails().place((0,), 0)), 0)
