"""[2], [20] to [22], [57]: Leads: whether, how and in how many ways webs can be coloured."""

import unittest

from growwebs.books import Book
from growwebs.errors import BadNumber, Endless, NoKind, OtherBook, TooFar, TooLong
from growwebs.leads import Lead, Leads, fewest_colours
from growwebs.pieces import Piece
from growwebs.rows import Row
from growwebs.rules import Rule
from tests.plain_leads import can_be_coloured, colourings, random_rules
from tests.values import any_values
from tests.webs import PlainWeb, bare_books, hander, ladder, nest, rails, random_books, strip, tent, twigs

TWO = Rule("ab", ["ab"])
THREE = Rule("abc", ["ab", "bc", "ca"])


def parting_path():
    """A path of which each place is tied to one more place; letters go round by three."""
    return Book("s", {
        "s": Piece(0, "x", [], [("p", (0,))]),
        "p": Piece(1, "y.", [("a", 0, 1), (0, 1, 1)], [("q", (0,))]),
        "q": Piece(1, "z.", [("a", 0, 1), (0, 1, 1)], [("r", (0,))]),
        "r": Piece(1, "x.", [("a", 0, 1), (0, 1, 1)], [("p", (0,))])})


LETTERS = Rule("abc", ["ab", "bc", "ca"], {"x": "a", "y": "b", "z": "c"})


def full(many):
    """So many places, each tied to each other one."""
    return Book("s", {"s": Piece(0, "." * many, [(one, other, 1) for one in range(many) for other in range(one)])})


def sub_web(web, rows):
    """What a plain web has of the pieces of some rows."""
    part = PlainWeb.__new__(PlainWeb)
    part.letters = {name: letter for name, letter in web.letters.items() if name[0] in rows}
    part.ties = {name: {other: length for other, length in web.ties[name].items() if other in part.letters}
                 for name in part.letters}
    return part


def small_webs(seed, many, most=60, depth=4):
    """Random books and rules, with the greatest depth to which the web is small."""
    books = random_books(seed, many - many // 3, (1,)) + bare_books(seed, many // 3, (1,))
    for book, rule in zip(books, random_rules(seed, many)):
        far = depth
        while far > 0 and len(PlainWeb(book.pieces, book.seed, far).letters) > most:
            far -= 1
        yield book, rule, far


class ExistsTest(unittest.TestCase):

    def test_the_examples(self):
        leads = Leads(LADDER := ladder(), TWO)
        self.assertEqual(leads.may("rung"), ("ab", "ba"))
        self.assertEqual(leads.lowest().table, {("base", ""): "ab", ("rung", "ab"): "ba", ("rung", "ba"): "ab"})
        far = LADDER.place(Row([((0,), 10 ** 40)]), 0)
        self.assertEqual((leads.lowest().colour(far), leads.lowest().coloured("a", 7)), ("a", 1))
        self.assertEqual(leads.how_many(100), 2)
        self.assertEqual(leads.pairs_of(LADDER.place((0, 0), 0), LADDER.place((0, 0), 1)), ("ab", "ba"))
        tents = Leads(tent(), TWO)
        self.assertEqual((tents.may("k"), tents.fails_at(), tents.bar()), (("aa", "bb"), 1, [(), (0,)]))
        self.assertEqual(fewest_colours(tent()), 3)
        self.assertIs(tents.exists, False)
        self.assertIs(leads.exists, True)
        self.assertEqual((leads.fails_at(), leads.bar()), (None, None))
        self.assertEqual((leads.book, leads.rule), (LADDER, TWO))

    def test_exists_and_fails_at_against_plain_colouring(self):
        seen = {}
        for book, rule, far in small_webs(57, 500):
            leads = Leads(book, rule)
            depth = leads.fails_at()
            self.assertIs(leads.exists, depth is None)
            self.assertIsNone(leads.bar() if leads.exists else None)
            if depth is None:
                self.assertTrue(can_be_coloured(PlainWeb(book.pieces, book.seed, far), rule))
            elif depth <= far:
                self.assertFalse(can_be_coloured(PlainWeb(book.pieces, book.seed, depth), rule))
                self.check_bar(book, rule, leads, depth)
                if depth > 0:
                    self.assertTrue(can_be_coloured(PlainWeb(book.pieces, book.seed, depth - 1), rule))
            seen[depth] = seen.get(depth, 0) + 1
        self.assertGreater(min(seen[None], seen[0], seen[1]), 20)
        self.assertGreater(sum(many for depth, many in seen.items() if depth and depth > 1), 5)

    def check_bar(self, book, rule, leads, depth):
        bar = leads.bar()
        self.assertEqual(bar, sorted(bar, key=lambda row: (len(row), row)))
        self.assertEqual(len(set(bar)), len(bar))
        self.assertTrue(all(isinstance(row, tuple) and len(row) <= depth for row in bar))
        self.assertTrue(all(row == () or row[:-1] in bar for row in bar))
        part = sub_web(PlainWeb(book.pieces, book.seed, depth), bar)
        self.assertFalse(can_be_coloured(part, rule))
        bar.clear()
        self.assertNotEqual(leads.bar(), [])

    def test_webs_that_fail_far_down(self):
        pieces = {"s": Piece(0, "x", [], [("a", (0,))])}
        for kind, below in zip("abc", "bcd"):
            pieces[kind] = Piece(1, ".", [("a", 0, 1)], [(below, (0,))])
        pieces["d"] = Piece(1, "x", [("a", 0, 1)], [])
        book = Book("s", pieces)
        self.assertTrue(Leads(book, Rule("ab", ["ab"], {"x": "a"})).exists)
        pieces["c"] = Piece(1, "..", [("a", 0, 1), (0, 1, 1)], [("d", (1,))])
        leads = Leads(Book("s", pieces), Rule("ab", ["ab"], {"x": "a"}))
        self.assertEqual((leads.fails_at(), leads.bar()), (4, [(), (0,), (0, 0), (0, 0, 0), (0, 0, 0, 0)]))
        self.assertEqual((leads.lowest(), leads.how_many(7), leads.is_endless), (None, 0, False))

    def test_may_against_plain_colouring(self):
        struck = kept = 0
        for book, rule, far in small_webs(21, 150, 30, 3):
            leads = Leads(book, rule)
            for kind, piece in book.pieces.items():
                words = [""]
                for _ in range(piece.mouth):
                    words = [word + colour for word in words for colour in rule.colours]
                told = leads.may(kind)
                self.assertIsInstance(told, tuple)
                self.assertEqual(list(told), [word for word in words if word in told])
                for word in words:
                    fixed = {("mouth", letter): colour for letter, colour in zip("abc", word)}
                    web = PlainWeb(book.pieces, kind, 5)
                    if len(web.letters) > 40:
                        web = PlainWeb(book.pieces, kind, 2)
                        if word not in told:
                            continue
                    self.assertEqual(can_be_coloured(web, rule, fixed), word in told, (kind, word))
                    struck += word not in told
                    kept += word in told
        self.assertGreater(min(struck, kept), 300)

    def test_no_kind(self):
        leads = Leads(ladder(), TWO)
        for value in any_values() + ["base ", "rungs", ["rung"]]:
            with self.assertRaises(NoKind) as caught:
                leads.may(value)
            self.assertIs(caught.exception.kind, value)
        self.assertEqual(leads.may("base"), ("",))
        self.assertEqual(Leads(tent(), Rule("a", [])).may("s"), ())

    def test_fewest_colours(self):
        for many in range(1, 5):
            self.assertEqual(fewest_colours(full(many)), many)
        self.assertIsNone(fewest_colours(full(5)))
        self.assertEqual([fewest_colours(book) for book in (ladder(), twigs(), nest(), strip())], [2, 2, 2, 2])
        self.assertEqual(fewest_colours(book=hander()), 3)
        self.assertFalse(can_be_coloured(PlainWeb(hander().pieces, "s", 3), TWO))


class CountTest(unittest.TestCase):

    def test_of_depth_against_a_plain_count(self):
        counted = 0
        for book, rule, far in small_webs(2200, 300, 12, 3):
            leads = Leads(book, rule)
            for depth in range(far + 1):
                web = PlainWeb(book.pieces, book.seed, depth)
                if len(web.letters) <= 12:
                    many = len(colourings(web, rule, most=3001))
                    if many <= 3000:
                        self.assertEqual(leads.of_depth(depth, 10 ** 9), many)
                        self.assertEqual((leads.of_depth(depth, 7), leads.of_depth(depth, 1)), (many % 7, 0))
                        counted += many > 1
        self.assertGreater(counted, 150)

    def test_of_depth_far_down(self):
        book = rails()
        # There are three colours for the first place, and two for each one behind it.
        leads = Leads(book, THREE)
        for depth in (0, 1, 5, 199, 200):
            self.assertEqual(leads.of_depth(depth, 10 ** 9), 6 * 4 ** depth % 10 ** 9)
        both = Rule("ab", ["ab", "aa"])
        one, other = 1, 1
        for _ in range(200):
            one, other = one + other, one
        told = Leads(twigs(), Rule("ab", ["ab", "aa", "bb"])).of_depth(5, 10 ** 9)
        self.assertEqual(told, 2 ** 63 % 10 ** 9)
        path = Book("s", {"s": Piece(0, ".", [], [("p", (0,))]), "p": Piece(1, ".", [("a", 0, 1)], [("p", (0,))])})
        self.assertEqual(Leads(path, both).of_depth(200, 10 ** 9), (one + other) % 10 ** 9)

    def test_wrong_numbers(self):
        leads = Leads(ladder(), TWO)
        for value in any_values():
            integer = isinstance(value, int) and not isinstance(value, bool)
            if not integer or value < 0:
                with self.assertRaises(BadNumber) as caught:
                    leads.of_depth(value, None)
                self.assertIs(caught.exception.value, value)
            if not integer or not 1 <= value <= 10 ** 9:
                for call in (lambda: leads.of_depth(201, value), lambda: leads.how_many(value),
                             lambda: Leads(twigs(), TWO).how_many(value), lambda: leads.of_depth(0, value)):
                    with self.assertRaises(BadNumber) as caught:
                        call()
                    self.assertIs(caught.exception.value, value)
        for depth in (201, 10 ** 40):
            with self.assertRaises(TooFar) as caught:
                leads.of_depth(depth, 1)
            self.assertEqual(caught.exception.number, depth)
        with self.assertRaises(BadNumber):
            leads.of_depth(modulo=10 ** 9 + 1, depth=200)

    def test_how_many_in_finite_webs(self):
        counted = 0
        for book, rule, far in small_webs(577, 400, 12, 5):
            if book.is_finite and far == 5:
                leads = Leads(book, rule)
                many = len(colourings(PlainWeb(book.pieces, book.seed, 6), rule, most=3001))
                if many <= 3000:
                    self.assertIs(leads.is_endless, False)
                    self.assertEqual((leads.how_many(10 ** 9), leads.how_many(5), leads.how_many(1)),
                                     (many, many % 5, 0))
                    counted += many > 0
        self.assertGreater(counted, 40)

    def test_choices_once_never_and_for_ever(self):
        for book, rule, endless, many in (
                (ladder(), TWO, False, 2), (ladder(), THREE, True, None), (rails(), TWO, False, 2),
                (parting_path(), LETTERS, True, None), (parting_path(), TWO, False, 2),
                (parting_path(), Rule("abc", ["ab", "bc", "ca"], {"x": "a", "y": "b", "z": "c", ".": "a"}), False, 0),
                (tent(), TWO, False, 0), (tent(), THREE, False, 6), (full(3), Rule("abcd", ["ab", "bc", "ca", "dd"]), False, 7),
                (twigs(), TWO, False, 2), (twigs(), Rule("a", ["aa"]), False, 1)):
            leads = Leads(book, rule)
            self.assertIs(leads.is_endless, endless)
            if endless:
                with self.assertRaises(Endless):
                    leads.how_many(10)
                with self.assertRaises(BadNumber):
                    leads.how_many(0)
            else:
                self.assertEqual(leads.how_many(10 ** 9), many)

    def test_a_choice_beside_an_endless_row(self):
        book = Book("s", {"s": Piece(0, ".", [], [("p", (0,)), ("q", (0,))]),
                          "p": Piece(1, ".", [("a", 0, 1)], [("p", (0,))]),
                          "q": Piece(1, "...", [("a", 0, 1)], [("r", (1,)), ("r", (2,))]),
                          "r": Piece(1, ".", [])})
        leads = Leads(book, TWO)
        self.assertEqual((leads.is_endless, leads.how_many(10 ** 9)), (False, 2 * 2 ** 4))
        pieces = dict(book.pieces)
        pieces["p"] = Piece(1, ".", [("a", 0, 1)], [("p", (0,)), ("r", (0,))])
        self.assertTrue(Leads(Book("s", pieces), TWO).is_endless)
        pieces["p"] = Piece(1, "x", [("a", 0, 1)], [("p", (0,)), ("t", (0,))])
        pieces["t"] = Piece(1, ".", [("a", 0, 1)])
        self.assertFalse(Leads(Book("s", pieces), TWO).is_endless)
        turning = Rule("abc", ["aa", "ab", "bb", "cc"], {"x": "a"})
        self.assertTrue(Leads(Book("s", pieces), turning).is_endless)

    def test_one_key_that_goes_round(self):
        book = Book("s", {"s": Piece(0, "x", [], [("p", (0,))]), "p": Piece(1, "x.", [("a", 1, 1)], [("p", (0,))])})
        for letters, endless in (({"x": "a"}, True), ({"x": "a", ".": "b"}, False)):
            leads = Leads(book, Rule("abc", ["ab", "ac"], letters))
            self.assertEqual((leads.may("p")[0], leads.is_endless), ("a", endless))

    def test_a_choice_some_steps_beside_what_goes_round(self):
        pieces = {"s": Piece(0, "x", [], [("p", (0,))]), "p": Piece(1, "x", [], [("p", (0,)), ("q", (0,))]),
                  "q": Piece(1, "x", [], [("r", (0,))]), "r": Piece(1, "x", [], [("t", (0,))])}
        for letter, endless in ((".", True), ("x", False)):
            pieces["t"] = Piece(1, letter)
            leads = Leads(Book("s", pieces), Rule("ab", [], {"x": "a"}))
            self.assertIs(leads.is_endless, endless)

    def test_endless_against_the_counts_of_depths(self):
        seen = {}
        for book, rule, far in small_webs(5757, 450):
            leads = Leads(book, rule)
            if leads.exists and not book.is_finite:
                part = [colour for colour in [leads.colours_of(place) for place in book.grown(3)[0]] if len(colour) > 1]
                if leads.is_endless:
                    self.assertGreater(max(leads.of_depth(depth, 10 ** 9) for depth in range(8)), 1)
                elif leads.how_many(10 ** 9) == 1:
                    self.assertEqual(part, [])
                seen[leads.is_endless] = seen.get(leads.is_endless, 0) + 1
        self.assertGreater(min(seen[True], seen[False]), 8)


class ColoursTest(unittest.TestCase):

    def test_against_all_colourings(self):
        checked = 0
        for book, rule, far in small_webs(575, 120, 40, 6):
            leads = Leads(book, rule)
            web = PlainWeb(book.pieces, book.seed, far)
            if leads.exists and far < 4 and not book.is_finite:
                continue
            places = book.grown(1)[0][:5]
            for one in places:
                name = (one.row, one.number)
                want = "".join(colour for colour in rule.colours if can_be_coloured(web, rule, {name: colour}))
                if not leads.exists:
                    want = ""
                self.assertEqual(leads.colours_of(one), want)
                for other in places:
                    beside = (other.row, other.number)
                    pairs = [first + second for first in want for second in rule.colours
                             if (name != beside or first == second)
                             and can_be_coloured(web, rule, {name: first, beside: second})]
                    self.assertEqual(leads.pairs_of(one, other), tuple(pairs))
                    checked += len(pairs) > 1
        self.assertGreater(checked, 200)

    def test_one_place_twice_and_mouth_letters(self):
        book = ladder()
        leads = Leads(book, THREE)
        self.assertEqual(leads.pairs_of(book.place((0,), 0), book.place((0, 0), "a")), ("aa", "bb", "cc"))
        self.assertEqual(leads.pairs_of(book.place((0,), "a"), book.place((0,), "b")),
                         ("ab", "ac", "ba", "bc", "ca", "cb"))
        self.assertEqual(leads.pairs_of(other=book.place((), 0), one=book.place((0, 0), 1)),
                         tuple(sorted(one + other for one in "abc" for other in "abc")))

    def test_without_a_lead(self):
        book = tent()
        leads = Leads(book, TWO)
        self.assertEqual(leads.colours_of(book.place((), 0)), "")
        self.assertEqual(leads.pairs_of(book.place((), 0), book.place((0,), 0)), ())

    def test_far_rows_however_they_are_spelled(self):
        book = parting_path()
        leads = Leads(book, LETTERS)
        for total in (0, 1, 2, 3, 10 ** 300, 10 ** 300 - 1, 10 ** 300 - 2, 4000, 4001):
            want = ["abc"[total % 3], "".join(colour for colour in "abc" if colour != "abc"[total % 3])]
            spelled = [Row([((0,), total)]), Row([((0, 0), total // 2), ((0,), total % 2)]),
                       Row([((0,) * 40, total // 40), ((0,) * 7, total % 40 // 7), ((0,), total % 40 % 7)])]
            if total < 5000:
                spelled.append((0,) * total)
            for row in spelled:
                self.assertEqual(leads.colours_of(book.place(row, 0)), want[0])
                if total:
                    self.assertEqual(leads.colours_of(book.place(row, 1)), want[1])

    def test_long_rows_and_other_books(self):
        book = rails()
        leads = Leads(book, TWO)
        near, far, further = book.place((), 1), book.place((0,) * 2000, 0), book.place((0,) * 2001, 0)
        self.assertEqual(leads.pairs_of(near, far), ("ab", "ba"))
        self.assertEqual(leads.pairs_of(far, book.place((0,) * 1999, 1)), ("aa", "bb"))
        self.assertEqual(Leads(book, THREE).pairs_of(far, book.place((0,) * 1000, 0)),
                         tuple(sorted(one + other for one in "abc" for other in "abc")))
        strange = ladder().place((0,) * 2001, 0)
        for one, other, error in ((near, further, TooLong), (further, near, TooLong), (further, strange, TooLong),
                                  (strange, further, OtherBook), (near, strange, OtherBook), (strange, strange, OtherBook)):
            with self.assertRaises(error) as caught:
                leads.pairs_of(one, other)
            if error is TooLong:
                self.assertEqual(caught.exception.length, 2001)
        with self.assertRaises(TooLong):
            Leads(book, Rule("a", [])).pairs_of(near, further)
        with self.assertRaises(OtherBook):
            leads.colours_of(strange)
        with self.assertRaises(OtherBook):
            Leads(book, Rule("a", [])).colours_of(strange)


class LowestTest(unittest.TestCase):

    def test_no_lead_is_lower(self):
        lower = 0
        for book, rule, far in small_webs(2424, 200, 30, 4):
            leads = Leads(book, rule)
            if not leads.exists:
                self.assertIsNone(leads.lowest())
                continue
            lead = leads.lowest()
            self.assertEqual(lead, Lead(book, rule, lead.table))
            depth = min(far, 2)
            web = PlainWeb(book.pieces, book.seed, depth + 3)
            if len(web.letters) > 200:
                continue
            told = {}
            for row in sorted(web.kinds, key=lambda row: (len(row), row)):
                if len(row) <= depth:
                    for number in range(len(book.pieces[web.kinds[row]].letters)):
                        colour = lead.colour(book.place(row, number))
                        # No lesser colour can be gone on, with what all places ahead have.
                        for lesser in rule.colours[:rule.colours.index(colour)]:
                            self.assertFalse(self.goes_on(leads, web, rule, {**told, (row, number): lesser}))
                            lower += 1
                        told[(row, number)] = colour
            self.assertTrue(can_be_coloured(web, rule, told))
        self.assertGreater(lower, 50)

    def goes_on(self, leads, web, rule, fixed):
        """Whether a plain web can be coloured so that all mouths far down can be gone on."""
        if not can_be_coloured(web, rule, fixed):
            return False
        for told in colourings(web, rule, fixed, most=200):
            right = True
            for row, kind in web.kinds.items():
                mouth = leads.book.pieces[kind].mouth
                colours = "".join(told[web.told[(row, letter)]] for letter in "abc"[:mouth])
                right = right and colours in leads.may(kind)
            if right:
                return True
        return False


if __name__ == "__main__":
    unittest.main()
