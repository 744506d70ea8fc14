"""[2], [10], [17], [46]: numbers of the webs of all depths, and how they spread."""

import random
import unittest

from growwebs.books import Book
from growwebs.depths import Depths
from growwebs.errors import BadNumber, BadWord, NoKind, TooFar, TooMany
from growwebs.pieces import Piece
from growwebs.times import Times
from tests.values import any_values
from tests.webs import hander, ladder, nest, rails, random_books, tent, twigs

WORDS = ("places", "ties", "pieces", "lengths")


def plain_levels(book, most):
    """For each depth the list of the kinds of all pieces whose rows have just so many numbers."""
    levels = [[book.seed]]
    for _ in range(most):
        levels.append([below for kind in levels[-1] for below, _ in book.pieces[kind].buds])
    return levels


def plain_number(book, levels, what):
    total = 0
    for level in levels:
        for kind in level:
            piece = book.pieces[kind]
            total += {"places": len(piece.letters), "ties": len(piece.ties), "pieces": 1,
                      "lengths": sum(length for _, _, length in piece.ties)}[what]
    return total


def chain_book(lines, seed="s"):
    """A book whose kinds have buds of these kinds; each piece has one new place and a tie upwards."""
    pieces = {}
    for kind, kinds in lines.items():
        buds = [(below, (0,)) for below in kinds]
        pieces[kind] = Piece(0, ".", [], buds) if kind == seed else Piece(1, ".", [("a", 0, 1)], buds)
    return Book(seed, pieces)


class DepthsTest(unittest.TestCase):

    def books(self):
        return [ladder(), tent(), rails(), twigs(), hander(), nest()] + random_books(91, 60, (1, 7, 10 ** 100))

    def test_the_example(self):
        depths = Depths(ladder())
        for number in (0, 1, 2, 77, 2000):
            self.assertEqual(depths.exact("places", number), 2 * number + 2)
        self.assertEqual(depths.least_depth("places", 7), 3)
        self.assertEqual(depths.spread(), ("power", 1))
        times = depths.when("places", 4, 0)
        self.assertIsInstance(times, Times)
        self.assertTrue(times == Times(2, [(1, 0, None)]))

    def test_against_a_plain_growing(self):
        for book in self.books():
            depths = Depths(book)
            levels = plain_levels(book, 6)
            for depth in range(7):
                for what in WORDS:
                    want = plain_number(book, levels[:depth + 1], what)
                    self.assertEqual(depths.exact(what, depth), want)
                    for modulus in (1, 2, 10 ** 9):
                        self.assertEqual(depths.modulo(what, depth, modulus), want % modulus)
                for kind in book.pieces:
                    want = sum(level.count(kind) for level in levels[:depth + 1])
                    self.assertEqual(depths.pieces_of(kind, depth), want)
            places, ties = book.grown(3, most=10 ** 6)
            self.assertEqual((depths.exact("places", 3), depths.exact("ties", 3)), (len(places), len(ties)))

    def test_depth_two_thousand(self):
        depths = Depths(twigs())
        self.assertEqual(depths.exact("places", 2000), 1 + 2 * (2 ** 2000 - 1))
        self.assertEqual(depths.exact("lengths", 2000), 3 * (2 ** 2000 - 1))
        self.assertEqual(depths.pieces_of("t", 2000), 2 ** 2000 - 1)
        self.assertEqual((depths.pieces_of("root", 2000), depths.pieces_of("root", 0)), (1, 1))
        for book in self.books():
            depths = Depths(book)
            for number in (500, 2000):
                for what in WORDS:
                    self.assertEqual(depths.modulo(what, number, 999999937), depths.exact(what, number) % 999999937)

    def test_kinds_that_the_seed_does_not_lead_to(self):
        book = chain_book({"s": "p", "p": "", "x": ["x", "x"], "y": ["x", "p"]})
        depths = Depths(book)
        self.assertEqual([depths.pieces_of(kind, 9) for kind in "spxy"], [1, 1, 0, 0])
        self.assertEqual((depths.spread(), depths.exact("pieces", 2000)), (("ends", 1), 2))
        self.assertEqual(depths.when("pieces", 64, 2).ending(), (1, 1, (0,)))

    def test_modulo_far_down(self):
        far = 10 ** 300
        self.assertEqual(Depths(ladder()).modulo("places", far, 10 ** 9), 2)
        self.assertEqual(Depths(ladder()).modulo("places", far, 1), 0)
        self.assertEqual(Depths(ladder()).modulo("lengths", far - 1, 7), (1 + 3 * (far - 1)) % 7)
        for modulus in (2, 97, 10 ** 9, 999999937):
            want = (1 + 2 * (pow(2, far, modulus) - 1)) % modulus
            self.assertEqual(Depths(twigs()).modulo("places", far, modulus), want)
        book = chain_book({"s": "p", "p": "q", "q": ["p", "q"]})

        def fibonacci(n, modulus):
            even, odd = 0, 1
            for bit in f"{n:b}":
                even, odd = even * (2 * odd - even) % modulus, (even * even + odd * odd) % modulus
                if bit == "1":
                    even, odd = odd, (even + odd) % modulus
            return even
        for number in (5, 30, far):
            # Levels below the seed: p, q, p q, q p q ..: Fibonacci numbers, and their sums.
            want = fibonacci(number + 2, 10 ** 9)
            self.assertEqual(Depths(book).modulo("pieces", number, 10 ** 9), want)

    def test_least_depth(self):
        for book in self.books():
            depths = Depths(book)
            for what in WORDS:
                self.assertEqual(depths.least_depth(what, 0), 0)
                values = [depths.exact(what, depth) for depth in range(6)]
                for depth, value in enumerate(values):
                    if value <= 10 ** 30:
                        self.assertEqual(depths.least_depth(what, value), values.index(value) if value else 0)
                    if value < 10 ** 30:
                        later = depths.least_depth(what, value + 1)
                        if later is None:
                            self.assertEqual(depths.exact(what, 200), value)
                        else:
                            self.assertGreaterEqual(depths.exact(what, later), value + 1)
                            self.assertLess(depths.exact(what, later - 1), value + 1) if later else None
        self.assertEqual(Depths(ladder()).least_depth("places", 10 ** 30), (10 ** 30 - 2 + 1) // 2)
        self.assertEqual(Depths(twigs()).least_depth("pieces", 2 ** 99), 99)
        self.assertEqual(Depths(twigs()).least_depth("pieces", 2 ** 99 + 1), 100)
        self.assertIsNone(Depths(tent()).least_depth("places", 4))
        self.assertEqual(Depths(tent()).least_depth("places", 3), 1)

    def test_least_depth_where_little_comes_every_few_depths(self):
        pieces = {"s": Piece(0, ".", [], [("p", (0,))])}
        for kind, below in zip("pqrtu", "qrtup"):
            pieces[kind] = Piece(1, ".", [("a", 0, 1)] if kind == "u" else [], [(below, (0,))])
        depths = Depths(Book("s", pieces))
        self.assertEqual(depths.least_depth("ties", 10 ** 30), 5 * 10 ** 30)
        self.assertEqual(depths.least_depth("places", 10 ** 30), 10 ** 30 - 1)
        bare = Depths(Book("s", {"s": Piece(0, ".", [], [("p", (0,))]), "p": Piece(1, ".", [], [("p", (0,))])}))
        self.assertIsNone(bare.least_depth("ties", 1))

    def test_when(self):
        for book in self.books()[:24]:
            depths = Depths(book)
            reached = [kind for kind in book.pieces if depths.pieces_of(kind, 20)]
            for modulus in (2, 3, 4, 7, 16, 64, 4096):
                for what in WORDS:
                    if modulus ** len(reached) > 4096:
                        with self.assertRaises(TooMany) as caught:
                            depths.when(what, modulus, 0)
                        self.assertEqual(caught.exception.most, 4096)
                        continue
                    numbers = list(range(12)) + [99, 4097, 10 ** 300]
                    rests = [depths.modulo(what, number, modulus) for number in numbers]
                    for rest in {0, 1, modulus - 1, rests[9]}:
                        times = depths.when(what, modulus, rest)
                        self.assertEqual([number in times for number in numbers], [met == rest for met in rests])
        one = Depths(Book("s", {"s": Piece(0, "...")}))
        self.assertTrue(one.when("places", 4096, 3) == Times(1, [(0, 0, None)]))
        self.assertTrue(one.when("places", 4096, 4095) == Times(1, []))
        two = Depths(chain_book({"s": "p", "p": "p"}))
        self.assertEqual(two.when("pieces", 64, 63).ending(), (0, 64, (62,)))
        with self.assertRaises(TooMany):
            two.when("pieces", 65, 0)

    def test_rests_cover_all_depths(self):
        depths = Depths(chain_book({"s": "p", "p": ["p", "p"]}))
        whole = Times(1, [])
        for rest in range(15):
            times = depths.when("pieces", 15, rest)
            self.assertFalse(whole & times)
            whole = whole | times
        self.assertTrue(whole == Times(1, [(0, 0, None)]))

    def test_spread(self):
        cases = [
            ({"s": ""}, ("ends", 0)), ({"s": "pq", "p": "q", "q": ""}, ("ends", 2)),
            ({"s": "pq", "p": "", "q": "r", "r": "p"}, ("ends", 3)),
            ({"s": "p", "p": "p"}, ("power", 1)), ({"s": "p", "p": "q", "q": "p"}, ("power", 1)),
            ({"s": "p", "p": "pq", "q": "q"}, ("power", 2)), ({"s": "pq", "p": "p", "q": "q"}, ("power", 1)),
            ({"s": "p", "p": "pq", "q": "r", "r": "rt", "t": "t"}, ("power", 3)),
            ({"s": "p", "p": "pqr", "q": "qt", "r": "r", "t": "t"}, ("power", 3)),
            ({"s": "p", "p": "pp"}, ("more",)), ({"s": "p", "p": "qq", "q": "p"}, ("more",)),
            ({"s": "p", "p": "pq", "q": "pr", "r": ""}, ("more",)),
            ({"s": "p", "p": "qr", "q": "p", "r": "p"}, ("more",)),
            ({"s": "p", "p": "pq", "q": "", "x": "xx"}, ("power", 1)), ({"s": "p", "p": "", "x": "x"}, ("ends", 1)),
            ({"s": "p", "p": "pq", "q": "qr", "r": "rt", "t": "tu", "u": "u"}, ("power", 5)),
            ({"s": "p", "p": "pqqq", "q": "r", "r": "q"}, ("power", 2)),
        ]
        for lines, want in cases:
            depths = Depths(chain_book(lines))
            self.assertEqual(depths.spread(), want, lines)
            if want[0] == "power":
                ratio = depths.exact("places", 2000) / depths.exact("places", 1000)
                self.assertAlmostEqual(ratio, 2 ** want[1], delta=0.2 * 2 ** want[1])

    def test_wrong_arguments(self):
        depths = Depths(ladder())
        for value in any_values() + ["Places", "place", "places "]:
            for call in (lambda: depths.exact(value, None), lambda: depths.modulo(value, -1, 0),
                         lambda: depths.least_depth(value, -1), lambda: depths.when(value, 1, -1)):
                with self.assertRaises(BadWord) as caught:
                    call()
                self.assertIs(caught.exception.value, value)
            with self.assertRaises(NoKind) as caught:
                depths.pieces_of(value, None)
            self.assertIs(caught.exception.kind, value)
            good = isinstance(value, int) and not isinstance(value, bool) and value >= 0
            calls = [lambda: depths.exact("ties", value), lambda: depths.pieces_of("rung", value),
                     lambda: depths.least_depth("ties", value), lambda: depths.modulo("ties", value, None)]
            for call in calls if not good else []:
                with self.assertRaises(BadNumber) as caught:
                    call()
                self.assertIs(caught.exception.value, value)
            if not good or value < 2 or value > 4096:
                for call in (lambda: depths.when("ties", value, -1),
                             lambda: depths.modulo("ties", 5, value) if value not in (1, 4, 7) or not good
                             else depths.when("ties", 1, 0)):
                    with self.assertRaises(BadNumber):
                        call()

    def test_the_ends_of_the_ranges(self):
        depths = Depths(ladder())
        for call in (lambda: depths.exact("ties", 2001), lambda: depths.pieces_of("rung", 10 ** 40)):
            with self.assertRaises(TooFar) as caught:
                call()
            self.assertEqual(caught.exception.number, 2000)
        for call, value in ((lambda: depths.modulo("ties", 10 ** 300 + 1, 0), 10 ** 300 + 1),
                            (lambda: depths.modulo("ties", 10 ** 300, 0), 0),
                            (lambda: depths.modulo("ties", 0, 10 ** 9 + 1), 10 ** 9 + 1),
                            (lambda: depths.least_depth("ties", 10 ** 30 + 1), 10 ** 30 + 1),
                            (lambda: depths.least_depth("ties", -1), -1), (lambda: depths.exact("ties", -1), -1),
                            (lambda: depths.when("ties", 1, 0), 1), (lambda: depths.when("ties", 4097, 0), 4097),
                            (lambda: depths.when("ties", 4096, 4096), 4096), (lambda: depths.when("ties", 5, -1), -1),
                            (lambda: depths.when("ties", 5, True), True), (lambda: depths.when("ties", True, 0), True)):
            with self.assertRaises(BadNumber) as caught:
                call()
            self.assertIs(caught.exception.value is value or caught.exception.value == value, True)
        with self.assertRaises(TooMany):
            depths.when("ties", 4096, 4095)
        self.assertEqual(depths.modulo(modulus=10 ** 9, number=10 ** 300, what="pieces"), 1)
        self.assertEqual(depths.exact(number=2000, what="pieces"), 2001)
        self.assertEqual(depths.pieces_of(number=3, kind="rung"), 3)
        self.assertEqual(depths.least_depth(wish=5, what="pieces"), 4)
        self.assertTrue(depths.when(rest=0, modulus=2, what="pieces") == Times(2, [(1, 0, None)]))
