"""[57]: coloured: how many places of one depth have a colour in a Lead, near and far down."""

import itertools
import random
import time
import unittest

from growwebs.books import Book
from growwebs.errors import BadNumber, BadRule, TooFar
from growwebs.leads import Lead, Leads
from growwebs.pieces import Piece
from growwebs.rules import Rule
from tests.lead_tables import plain_colours, plain_counts, some_leads
from tests.webs import hander, ladder, tent, twigs

TWO = Rule("ab", ["ab"])
KM = Rule("km", ["km"])
PATH = [(0, 1, 1), (1, 2, 1), (2, 3, 1), (3, 4, 1), (4, 5, 1)]


def six_kinds():
    """Six kinds with paths of six places, of which each grows to four others at its first places."""
    pieces = {}
    for at, kind in enumerate("bcdefg"):
        buds = [("bcdefg"[1 + (at + more) % 5], (more,)) for more in range(4)]
        pieces[kind] = Piece(min(at, 1), "......", PATH + [("a", 0, 1)][:at], buds)
    return Book("b", pieces)


def six_kinds_table():
    table = {("b", ""): "kmkmkm"}
    for kind in "cdefg":
        table[(kind, "k")] = "mkmkmk"
        table[(kind, "m")] = "kmkmkm"
    return table


def uneven_kinds():
    """Like six_kinds, but no two kinds have as many places, nor buds of the same kinds."""
    pieces = {}
    for at, kind in enumerate("bcdefg"):
        new = 1 + (5 * at + 3) % 6
        buds = [("bcdefg"[1 + (at * at + more * (at + 2)) % 5], (more % new,)) for more in range(4)]
        pieces[kind] = Piece(min(at, 1), "." * new, PATH[:new - 1] + [("a", 0, 1)][:at], buds)
    return Book("b", pieces)


def least_time(call, tries=40):
    """The least time of some calls, in seconds: what else the machine does counts as little as it can."""
    times = []
    for _ in range(tries):
        begun = time.perf_counter()
        call()
        times.append(time.perf_counter() - begun)
    return min(times)


def full_table(rng, book, rule):
    """A table with any strings of colours, for a rule by which all is right."""
    return {(kind, "".join(mouth)): "".join(rng.choice(rule.colours) for _ in piece.letters)
            for kind, piece in book.pieces.items() for mouth in itertools.product(rule.colours, repeat=piece.mouth)}


class ColouredTest(unittest.TestCase):

    def check_counts(self, book, rule, table, most):
        """All depths to most, against a plain count; and whether the colours together are all places."""
        lead = Lead(book, rule, table)
        counts = {colour: plain_counts(book, table, colour, most) for colour in rule.colours}
        for depth in range(most + 1):
            for colour in rule.colours:
                self.assertEqual(lead.coloured(colour, depth), counts[colour][depth], (depth, colour))

    def test_six_kinds(self):
        lead = Lead(six_kinds(), KM, six_kinds_table())
        self.assertEqual(len(lead.table), 11)
        for depth in (0, 1, 2, 3, 1999, 2000):
            for colour in "km":
                self.assertEqual(lead.coloured(colour, depth), 3 * 4 ** depth)
        for colour in "km":
            with self.assertRaises(TooFar) as caught:
                lead.coloured(colour, 2001)
            self.assertEqual(caught.exception.number, 2001)
        with self.assertRaises(BadRule) as caught:
            lead.coloured("a", 2001)
        self.assertEqual(caught.exception.value, "a")
        with self.assertRaises(BadNumber) as caught:
            lead.coloured("k", True)
        self.assertIs(caught.exception.value, True)
        self.assertEqual(lead.coloured("k", 2000), 3 * 4 ** 2000)

    def test_a_call_takes_at_most_five_milliseconds(self):
        lead = Lead(six_kinds(), KM, six_kinds_table())
        uneven = Leads(uneven_kinds(), KM).lowest()
        self.assertEqual(len(uneven.table), 11)
        for told in (lead, uneven):
            for colour in "km":
                for depth in (300, 1023, 1999, 2000):
                    self.assertLess(least_time(lambda: told.coloured(colour, depth)), 0.005)

    def test_a_depth_a_lesser_one_and_the_first_one_again(self):
        for book, rule, table in ((six_kinds(), KM, six_kinds_table()),
                                  (uneven_kinds(), KM, Leads(uneven_kinds(), KM).lowest().table)):
            lead = Lead(book, rule, table)
            counts = {colour: plain_counts(book, table, colour, 2000) for colour in "km"}
            for depth in (2000, 7, 2000, 1999, 0, 300, 299, 300, 2000, 1024, 2000):
                for colour in "kmk":
                    self.assertEqual(lead.coloured(colour, depth), counts[colour][depth])
            for depth in (2001, 10 ** 40):
                with self.assertRaises(TooFar):
                    lead.coloured("k", depth)
                self.assertEqual(lead.coloured("m", 2000), counts["m"][2000])

    def test_all_depths_against_a_plain_count(self):
        self.check_counts(uneven_kinds(), KM, Leads(uneven_kinds(), KM).lowest().table, 330)
        self.check_counts(ladder(), TWO, Leads(ladder(), TWO).lowest().table, 160)
        self.check_counts(twigs(), TWO, Leads(twigs(), TWO).lowest().table, 160)
        rule = Rule("abc", ["ab", "bc", "ca"])
        self.check_counts(hander(), rule, Leads(hander(), rule).lowest().table, 60)

    def test_several_buds_of_one_kind(self):
        book = Book("s", {"s": Piece(0, ".", [], [("p", (0,)), ("p", (0,)), ("q", (0,))]),
                          "p": Piece(1, "..", [("a", 0, 1), ("a", 1, 1)], [("p", (0,)), ("p", (1,)), ("q", (0,)), ("p", (0,))]),
                          "q": Piece(1, ".", [("a", 0, 1)], [("q", (0,)), ("p", (0,)), ("q", (0,))])})
        for leads in (Leads(book, TWO), Leads(book, Rule("abc", ["ab", "bc", "cc"]))):
            table = leads.lowest().table
            self.check_counts(book, leads.rule, table, 200)
            for colour in leads.rule.colours:
                self.assertEqual(Lead(book, leads.rule, table).coloured(colour, 2000),
                                 plain_counts(book, table, colour, 2000)[2000])

    def test_random_leads(self):
        rng = random.Random(57)
        several = 0
        for book, rule, table in some_leads(57, 100):
            lead = Lead(book, rule, table)
            colours = plain_colours(book, table, 3)
            most = rng.randrange(4, 700)
            for colour in rule.colours:
                counts = plain_counts(book, table, colour, most)
                plain = [sum(other == colour for (row, _), other in colours.items() if len(row) == depth)
                         for depth in range(4)]
                self.assertEqual(counts[:4], plain)
                for depth in (0, 1, 2, 3, most, most - 1, most // 2, most):
                    self.assertEqual(lead.coloured(colour, depth), counts[depth])
            several += any(len({below for below, _ in piece.buds}) < len(piece.buds) for piece in book.pieces.values())
        self.assertGreater(several, 10)

    def test_many_keys(self):
        rng = random.Random(571)
        rule = Rule("abcd", ["".join(pair) for pair in itertools.combinations_with_replacement("abcd", 2)])
        for mouth, fewest in ((1, 12), (2, 50), (3, 200)):
            pieces = {"s": Piece(0, "...", [], [(kind, (0, 1, 2)[:mouth]) for kind in "pqrt"])}
            for kind in "pqrtu":
                buds = [(rng.choice("pqrtu"), tuple(rng.sample(range(5), mouth))) for _ in range(4)]
                pieces[kind] = Piece(mouth, ".....", [("a", 0, 1), (0, 4, 2)], buds)
            book = Book("s", pieces)
            table = full_table(rng, book, rule)
            lead = Lead(book, rule, table)
            self.assertGreater(len(lead.table), fewest)
            for colour in "ad":
                counts = plain_counts(book, table, colour, 2000)
                for depth in (0, 1, 2, 5, 63, 64, 311, 1300, 1999, 2000):
                    self.assertEqual(lead.coloured(colour, depth), counts[depth])

    def test_webs_that_end(self):
        rule = Rule("abc", ["ab", "bc", "ca"])
        lead = Leads(tent(), rule).lowest()
        for colour, counts in (("a", [1, 0]), ("b", [1, 0]), ("c", [0, 1])):
            self.assertEqual([lead.coloured(colour, depth) for depth in (0, 1)], counts)
            self.assertEqual([lead.coloured(colour, depth) for depth in (2, 47, 48, 500, 2000)], [0] * 5)
        alone = Lead(Book("s", {"s": Piece(0, "..")}), rule, {("s", ""): "bb"})
        self.assertEqual([alone.coloured("b", depth) for depth in (0, 1, 23, 24, 2000)], [2, 0, 0, 0, 0])
        chain = Book("s", {"s": Piece(0, ".", [], [("p", (0,))] * 4), "p": Piece(1, ".", [], [("q", (0,))] * 4),
                           "q": Piece(1, "..", [("a", 0, 1)], [])})
        lead = Leads(chain, rule).lowest()
        self.check_counts(chain, rule, lead.table, 100)
        self.assertEqual([sum(lead.coloured(colour, depth) for colour in "abc") for depth in (0, 1, 2, 3, 2000)],
                         [1, 4, 32, 0, 0])


if __name__ == "__main__":
    unittest.main()
