"""[2], [23], [24], [57]: Lead: the lead that a closed table tells."""

import random
import unittest

from growwebs.books import Book
from growwebs.errors import BadNumber, BadRule, BadTable, OtherBook, TooFar
from growwebs.leads import Lead, Leads
from growwebs.pieces import Piece
from growwebs.rows import Row
from growwebs.rules import Rule
from tests.equality import check_equality
from tests.lead_tables import plain_colours, random_table, some_leads
from tests.plain_leads import fits
from tests.values import any_values
from tests.webs import PlainWeb, hander, ladder, rails, tent, twigs

TWO = Rule("ab", ["ab"])
THREE = Rule("abc", ["ab", "bc", "ca"])
TABLE = {("base", ""): "ab", ("rung", "ab"): "ba", ("rung", "ba"): "ab"}


class TableTest(unittest.TestCase):

    def check_bad(self, key, table, book=None, rule=TWO):
        with self.assertRaises(BadTable) as caught:
            Lead(book or ladder(), rule, table)
        self.assertEqual(caught.exception.key, key)

    def test_the_met_keys_in_their_order(self):
        table = {("rung", "ba"): "ab", 5: 7, ("rung", "aa"): "zz", ("rung", "ab"): "ba", None: [], ("base", ""): "ab",
                 (): {}, "base": "", ("base", "", ""): 0, ("none", ""): 4, ("rung", "bb"): None}
        lead = Lead(ladder(), TWO, table)
        self.assertEqual(list(lead.table.items()), list(TABLE.items()))
        self.assertEqual((lead.book, lead.rule), (ladder(), TWO))
        table[("base", "")] = "ba"
        self.assertEqual(lead.table, TABLE)
        self.assertEqual(len(table), 11)

    def test_no_dict(self):
        for value in any_values():
            if not isinstance(value, dict):
                self.check_bad(("base", ""), value)
        self.check_bad(("base", ""), {})
        self.check_bad(("base", ""), {"base": "ab"})

    def test_the_first_met_key_that_is_not_right(self):
        for value in any_values() + ["aa", "bb", "aba", "ac", ["a", "b"], ("a", "b"), b"ab"]:
            if value == "ab":
                continue
            self.check_bad(("base", ""), {**TABLE, ("base", ""): value})
            self.check_bad(("rung", "ab"), {**TABLE, ("rung", "ab"): value, ("rung", "ba"): value})
            self.check_bad(("rung", "ba"), {**TABLE, ("rung", "ba"): value}) if value != "ba" else None
        for key in TABLE:
            self.check_bad(key, {other: word for other, word in TABLE.items() if other != key})
        self.check_bad(("rung", "ab"), {("base", ""): "ab"})

    def test_the_order_of_the_met_keys(self):
        book = Book("s", {"s": Piece(0, "...", [], [("p", (2,)), ("q", (0, 1))]),
                          "p": Piece(1, ".", [("a", 0, 1)], [("q", (0, "a")), ("p", (0,))]),
                          "q": Piece(2, ".", [("a", 0, 1)], [("p", (0,))])})
        table = {("s", ""): "abc", ("p", "c"): "a", ("q", "ab"): "c", ("q", "ac"): "b", ("p", "a"): "b", ("p", "b"): "c",
                 ("q", "ba"): "c", ("q", "cb"): "a"}
        order = [("s", ""), ("p", "c"), ("q", "ab"), ("q", "ac"), ("p", "a"), ("p", "b"), ("q", "ba"), ("q", "cb")]
        self.assertEqual(list(Lead(book, THREE, table).table), order)
        self.assertEqual(list(Lead(book, THREE, dict(reversed(table.items()))).table), order)
        for at in range(len(order)):
            for last in range(at, len(order)):
                wrong = {key: "x" if key == order[at] else word for key, word in table.items() if key != order[last]
                         or last == at}
                self.check_bad(order[at], wrong, book, THREE)
                wrong = {key: word for key, word in table.items() if key not in (order[at], order[last])}
                self.check_bad(order[at], wrong, book, THREE)

    def test_letters_and_ties_to_the_mouth(self):
        book = Book("s", {"s": Piece(0, "x.", [], [("p", (1,))]), "p": Piece(1, "y", [("a", 0, 1)], [])})
        rule = Rule("abc", ["ab", "bc"], {"x": "c", "y": "ab", "z": ""})
        Lead(book, rule, {("s", ""): "ca", ("p", "a"): "b"})
        for table, key in (({("s", ""): "aa", ("p", "a"): "b"}, ("s", "")), ({("s", ""): "ca", ("p", "a"): "a"}, ("p", "a")),
                           ({("s", ""): "cb", ("p", "b"): "c"}, ("p", "b")), ({("s", ""): "c", ("p", "b"): "c"}, ("s", ""))):
            self.check_bad(key, table, book, rule)
        Lead(book=book, table={("s", ""): "cc", ("p", "c"): "b"}, rule=rule)

    def test_colours_near_and_far(self):
        for book, rule, table in some_leads(23, 80):
            lead = Lead(book, rule, table)
            colours = plain_colours(book, table, 3)
            web = PlainWeb(book.pieces, book.seed, 3)
            self.assertEqual({name: lead.colour(book.place(*name)) for name in colours}, colours)
            for name, others in web.ties.items():
                for other in others:
                    self.assertTrue(fits(rule, colours[name], colours[other]))
        lead = Lead(ladder(), TWO, TABLE)
        for total in (10 ** 300, 10 ** 300 - 1, 2001, 2000):
            for number in (0, 1):
                want = "ab"[(total + number) % 2]
                for row in (Row([((0,), total)]), Row([((0, 0, 0), total // 3), ((0,), total % 3)])):
                    self.assertEqual(lead.colour(ladder().place(row, number)), want)
        self.assertEqual(lead.colour(ladder().place(Row([((0,), 10 ** 300)]), "b")), "a")
        with self.assertRaises(OtherBook):
            lead.colour(rails().place((), 0))

    def test_coloured_against_a_plain_count(self):
        for book, rule, table in some_leads(24, 60):
            lead = Lead(book, rule, table)
            colours = plain_colours(book, table, 4)
            for depth in range(5):
                for colour in rule.colours:
                    want = sum(other == colour for (row, _), other in colours.items() if len(row) == depth)
                    self.assertEqual(lead.coloured(colour, depth), want)

    def test_coloured_far_down(self):
        table = {("root", ""): "a", ("t", "a"): "bb", ("t", "b"): "aa"}
        lead = Lead(twigs(), TWO, table)
        self.assertEqual([lead.coloured("b", depth) for depth in (0, 1, 3, 1999, 2000)], [0, 2, 8, 2 ** 1999, 0])
        self.assertEqual(lead.coloured("a", 2000), 2 ** 2000)
        for depth in (2001, 10 ** 40):
            with self.assertRaises(TooFar) as caught:
                lead.coloured(depth=depth, colour="a")
            self.assertEqual(caught.exception.number, depth)

    def test_coloured_by_what_is_wrong(self):
        lead = Lead(ladder(), TWO, TABLE)
        for value in any_values() + ["c", "ab", "", "A"]:
            if value not in ("a", "b"):
                with self.assertRaises(BadRule) as caught:
                    lead.coloured(value, -1)
                self.assertIs(caught.exception.value, value)
            if not isinstance(value, int) or isinstance(value, bool) or value < 0:
                with self.assertRaises(BadNumber) as caught:
                    lead.coloured("a", value)
                self.assertIs(caught.exception.value, value)

    def test_first_apart_and_equality(self):
        leads = list(some_leads(25, 120))
        rng = random.Random(1)
        apart = 0
        for book, rule, table in leads:
            other = random_table(rng, book, rule)
            one, two = Lead(book, rule, table), Lead(book, rule, other)
            place = one.first_apart(two)
            colours, others = plain_colours(book, table, 5), plain_colours(book, other, 5)
            unlike = [name for name in colours if colours[name] != others[name]]
            if unlike:
                self.assertEqual((place.row, place.number), min(unlike, key=lambda name: (len(name[0]), name)))
                apart += 1
            elif place is not None:
                self.assertGreater(len(place.row), 5)
            self.assertIs(one == two, place is None)
            self.assertIs(one != two, place is not None)
            self.assertIsNone(one.first_apart(Lead(book, rule, dict(table))))
        self.assertGreater(apart, 15)

    def test_equality_in_one_book_and_in_books_made_apart(self):
        rng = random.Random(16)
        unequal = 0
        for book, rule, table in [(ladder(), TWO, TABLE), (hander(), THREE, Leads(hander(), THREE).lowest().table)] \
                + list(some_leads(16, 60)):
            tables = (table, random_table(rng, book, rule))
            unequal += not check_equality(self, book, lambda beside, told: Lead(beside, rule, told), tables)
        self.assertGreater(unequal, 10)

    def test_equal_leads_with_unlike_tables_and_rules(self):
        book = Book("s", {"s": Piece(0, ".", [], [("p", (0,))]), "p": Piece(1, ".", [("a", 0, 1)], [("q", (0,))]),
                          "q": Piece(1, ".", [("a", 0, 1)], [("p", (0,))])})
        table = {("s", ""): "a", ("p", "a"): "b", ("q", "b"): "a"}
        one, other = Lead(book, TWO, table), Lead(book, THREE, {**table, ("q", "a"): "c"})
        self.assertEqual(one, other)
        self.assertIsNone(one.first_apart(other))
        third = Lead(book, THREE, {("s", ""): "a", ("p", "a"): "b", ("q", "b"): "c", ("p", "c"): "b"})
        self.assertNotEqual(one, third)
        place = one.first_apart(third)
        self.assertEqual((place.row, place.number, place.book), ((0, 0), 0, book))
        self.assertNotEqual(one, Lead(ladder(), TWO, TABLE))
        with self.assertRaises(OtherBook):
            one.first_apart(Lead(ladder(), TWO, TABLE))
        for value in any_values() + [TABLE]:
            self.assertFalse(one == value)

    def test_the_first_place_apart_is_shorter_first(self):
        book = Book("s", {"s": Piece(0, "..", [], [("p", (0,)), ("q", (1,))]),
                          "p": Piece(1, ".", [("a", 0, 1)], [("q", (0,))]), "q": Piece(1, "..", [("a", 0, 1)])})
        table = {("s", ""): "aa", ("p", "a"): "b", ("q", "b"): "aa", ("q", "a"): "ba"}
        other = {**table, ("q", "b"): "ab", ("q", "a"): "bb"}
        place = Lead(book, TWO, table).first_apart(Lead(book, TWO, other))
        self.assertEqual((place.row, place.number), ((1,), 1))

    def test_lowest_has_only_met_keys(self):
        self.assertEqual(list(Leads(ladder(), TWO).lowest().table), list(TABLE))
        low = Leads(hander(), THREE).lowest()
        self.assertEqual(list(Lead(hander(), THREE, low.table).table), list(low.table))
        low.table.clear()
        self.assertNotEqual(Leads(hander(), THREE).lowest().table, {})
        self.assertEqual(Leads(tent(), THREE).lowest().table, {("s", ""): "ab", ("k", "ab"): "c"})


if __name__ == "__main__":
    unittest.main()
