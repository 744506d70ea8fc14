"""[2], [25], [58]: whether and how all places of a web can be paired along its ties."""

import itertools
import random
import unittest

from growwebs.books import Book
from growwebs.errors import BadTable, NoKind, OtherBook, TooLong
from growwebs.pairings import Pairing, Pairings
from growwebs.pieces import Piece
from growwebs.rows import Row
from tests.equality import check_equality
from tests.plain_leads import hanging, pairings
from tests.values import any_values
from tests.webs import PlainWeb, bare_books, hander, ladder, names, nest, rails, random_books, strip, tent, twigs

LADDER = {("base", ""): ((), ("ab",)), ("rung", "ab"): ((1, 2), ("",)), ("rung", ""): ((0,), ("",))}


def handing():
    """A web whose places are handed on over several kinds before they are paired."""
    return Book("s", {
        "s": Piece(0, "..", [], [("p", (0, 1)), ("e", (1,))]),
        "p": Piece(2, "", [], [("q", ("b", "a")), ("e", ("b",))]),
        "q": Piece(2, "", [], [("e", ("a",)), ("r", ("b", "a"))]),
        "r": Piece(2, "..", [("a", 0, 1), ("b", 1, 1), (0, 1, 2)], [("e", ("b",)), ("p", (1, 0))]),
        "e": Piece(1, "..", [("a", 0, 1), (0, 1, 1)])})


def free_names(book, web, depth):
    """The places at which buds of the deepest pieces hang."""
    rows = {row for row in web.kinds if len(row) <= depth}
    return hanging(web, book.pieces, rows)


def can_be_paired(book, depth, kind=None, letters=""):
    """Whether what grows from a kind to a depth can be paired, with just these letters of its mouth."""
    web = PlainWeb(book.pieces, kind or book.seed, depth)
    barred = [name for name in web.ties if name not in web.letters and name[1] not in letters]
    free = [name for name in free_names(book, web, depth) if name not in barred]
    return len(pairings(web, free, 1, barred)) > 0


def far_enough(book, kind, most=26):
    """The greatest depth, at most 5, to which what grows from a kind is small."""
    depth = 5
    while depth > 0 and len(PlainWeb(book.pieces, kind, depth).letters) > most:
        depth -= 1
    return depth


def grown_pairing(book, pairing, depth):
    """The dict of all names to a depth to their partners in a pairing."""
    told = {}
    for place in book.grown(depth)[0]:
        other = pairing.partner(place)
        told[(place.row, place.number)] = (other.row, other.number)
    return told


def random_table(rng, book):
    """A closed table that takes any way that can be gone on for each key, or None."""
    if not Pairings(book).exists:
        return None
    alive = Pairings(book)._reckoning.alive
    return {key: rng.choice(alive[key])[1] for key in alive}


def six_pairings(turn, row):
    """The pairings of a web in which one of three places is paired further up, the others further down."""
    upper = Piece(3, "...", [("a", 0, 1), ("b", 1, 1), ("c", 2, 1), (0, 1, 1), (0, 2, 1), (1, 2, 1)], [("q", row)])
    lower = Piece(3, "..", [(letter, number, 1) for letter in "abc" for number in (0, 1)])
    book = Book("s", {"s": Piece(0, "...", [], [("p", turn)]), "p": upper, "q": lower})
    found = []
    for number, letter in enumerate("abc"):
        one, other = [at for at in range(3) if at != number]
        ties = sorted(upper.ties.index(tie) for tie in ((number, letter, 1), (one, other, 1)))
        inside = "".join(below for below, told in zip("abc", row) if told != letter)
        for numbers in ((0, 1), (1, 0)):
            below = sorted(lower.ties.index((at, sign, 1)) for at, sign in zip(numbers, inside))
            found.append(Pairing(book, {("s", ""): ((), ("abc",)), ("p", "abc"): (ties, (inside,)),
                                        ("q", inside): (below, ())}))
    return found


class PairingsTest(unittest.TestCase):

    def test_the_examples(self):
        told = Pairings(ladder())
        self.assertEqual(told.may("rung"), ("", "a", "ab", "b"))
        low = told.lowest()
        self.assertEqual(low.table[("base", "")], ((), ("ab",)))
        self.assertEqual(low.table[("rung", "ab")], ((1, 2), ("",)))
        self.assertIs(told.exists, True)
        self.assertEqual((told.fails_at(), told.bar(), told.book), (None, None, ladder()))
        tents = Pairings(tent())
        self.assertIs(tents.exists, False)
        self.assertEqual((tents.fails_at(), tents.bar(), tents.lowest()), (1, [(), (0,)], None))

    def test_exists_and_fails_at(self):
        seen = {}
        for book in [handing(), hander(), strip(), nest(), twigs(), rails()] + random_books(58, 400) + bare_books(58, 400):
            told = Pairings(book)
            depth = told.fails_at()
            self.assertIs(told.exists, depth is None)
            far = far_enough(book, book.seed)
            if depth is None:
                self.assertTrue(can_be_paired(book, far))
            elif depth <= far:
                self.assertFalse(can_be_paired(book, depth))
                self.assertTrue(depth == 0 or can_be_paired(book, depth - 1))
                self.check_bar(book, told, depth)
            seen[depth] = seen.get(depth, 0) + 1
        self.assertGreater(min(seen[None], seen[0], seen[1], seen[2]), 3)

    def check_bar(self, book, told, depth):
        bar = told.bar()
        self.assertEqual(bar, sorted(set(bar), key=lambda row: (len(row), row)))
        self.assertTrue(all(isinstance(row, tuple) and len(row) <= depth for row in bar))
        self.assertTrue(all(row == () or row[:-1] in bar for row in bar))
        web = PlainWeb(book.pieces, book.seed, depth)
        web.ties = {name: {other: length for other, length in web.ties[name].items() if other[0] in bar}
                    for name in web.ties if name[0] in bar}
        self.assertEqual(pairings(web, hanging(web, book.pieces, set(bar)), 1), [])

    def test_may(self):
        kept = struck = 0
        for book in [handing(), hander(), nest(), ladder()] + random_books(25, 150):
            told = Pairings(book)
            for kind, piece in book.pieces.items():
                words = sorted("".join(word) for size in range(piece.mouth + 1)
                               for word in itertools.combinations("abc"[:piece.mouth], size))
                may = told.may(kind)
                self.assertEqual(list(may), [word for word in words if word in may])
                far = far_enough(book, kind, 20)
                for word in words:
                    if word in may:
                        self.assertTrue(can_be_paired(book, far, kind, word))
                        kept += 1
                    elif far >= 4:
                        self.assertFalse(can_be_paired(book, far, kind, word))
                        struck += 1
        self.assertGreater(min(kept, struck), 200)

    def test_lowest(self):
        for book in [handing(), ladder(), nest()] + random_books(2525, 150) + bare_books(2525, 150):
            told = Pairings(book)
            if not told.exists:
                self.assertIsNone(told.lowest())
                continue
            low = told.lowest()
            self.assertEqual(low, Pairing(book, low.table))
            for key, way in low.table.items():
                self.check_first(book, told, key, way)

    def check_first(self, book, told, key, way):
        """That no lesser way of a key is right and can be gone on."""
        piece = book.pieces[key[0]]
        places = [letter for letter in "abc"[:piece.mouth] if letter in key[1]] + list(range(len(piece.letters)))
        insides = list(itertools.product(*[told.may(kind) for kind, _ in piece.buds]))
        for many in range(len(piece.ties) + 1):
            for ties in itertools.combinations(range(len(piece.ties)), many):
                if ties > way[0] or many > 4:
                    continue
                for inside in insides:
                    met = [end for number in ties for end in piece.ties[number][:2]]
                    for letters, (_, row) in zip(inside, piece.buds):
                        met.extend(row["abc".index(letter)] for letter in letters)
                    if sorted(met, key=repr) == sorted(places, key=repr):
                        self.assertGreaterEqual((ties, inside), way)

    def test_partners(self):
        several = 0
        for book in [handing(), ladder(), strip(), nest(), tent()] + random_books(588, 200):
            told = Pairings(book)
            far = far_enough(book, book.seed, 24)
            web = PlainWeb(book.pieces, book.seed, far)
            if far < 5 and not book.is_finite and book not in (handing(), ladder(), strip()):
                continue
            for place in book.grown(1)[0][:5]:
                partners = told.partners(place)
                self.assertIsInstance(partners, tuple)
                want = []
                for other in web.ties[(place.row, place.number)]:
                    fewer = PlainWeb(book.pieces, book.seed, far)
                    fewer.ties = {name: ties for name, ties in web.ties.items()
                                  if name not in (other, (place.row, place.number))}
                    free = free_names(book, web, far)
                    if told.exists and pairings(fewer, free, 1, [other, (place.row, place.number)]):
                        want.append(other)
                self.assertEqual(names(partners), sorted(want, key=lambda name: (len(name[0]), name)))
                several += len(want) > 1
        self.assertGreater(several, 10)

    def test_partners_told_in_other_ways(self):
        book = ladder()
        told = Pairings(book)
        self.assertEqual(names(told.partners(book.place((0, 0), "a"))), [((), 0), ((0,), 1), ((0, 0), 0)])
        self.assertEqual(told.partners(place=book.place(Row([((0,), 1)]), 0)), told.partners(book.place((0, 0), "a")))
        self.assertEqual(Pairings(tent()).partners(tent().place((), 0)), ())
        far = told.partners(book.place((0,) * 1999, 1))
        self.assertEqual([(len(place.row), place.number) for place in far], [(1998, 1), (1999, 0), (2000, 1)])
        self.assertEqual(told.partners(book.place((0,) * 2000, 1))[2].row, Row([((0,), 2001)]))
        for call in (told.partners, Pairings(tent()).partners):
            with self.assertRaises(OtherBook):
                call(rails().place((0,) * 2001, 0))
        with self.assertRaises(TooLong) as caught:
            told.partners(book.place(Row([((0,), 10 ** 60)]), 1))
        self.assertEqual(caught.exception.length, 10 ** 60)

    def test_no_kind(self):
        told = Pairings(ladder())
        for value in any_values() + ["base ", ["rung"]]:
            with self.assertRaises(NoKind) as caught:
                told.may(value)
            self.assertIs(caught.exception.kind, value)
        self.assertEqual(told.may("base"), ("",))


class PairingTest(unittest.TestCase):

    def check_bad(self, key, table, book=None):
        with self.assertRaises(BadTable) as caught:
            Pairing(book or ladder(), table)
        self.assertEqual(caught.exception.key, key)

    def test_the_met_keys_in_their_order(self):
        table = {None: 3, ("rung", "b"): 0, ("rung", ""): [[0], ["ab"]], 7: (), ("rung", "ab"): [(1, 2), [""]],
                 ("base", ""): ([], ["ab"])}
        with self.assertRaises(BadTable):
            Pairing(ladder(), table)
        table[("rung", "")] = [[0], [""]]
        told = Pairing(ladder(), table)
        self.assertEqual(list(told.table.items()), list(LADDER.items()))
        self.assertEqual(told.book, ladder())
        table[("rung", "")][0].append(1)
        table.clear()
        self.assertEqual(told.table, LADDER)
        for ties, insides in told.table.values():
            self.assertTrue(isinstance(ties, tuple) and isinstance(insides, tuple))

    def test_values_that_are_not_right(self):
        for value in any_values():
            if not isinstance(value, dict):
                self.check_bad(("base", ""), value)
            for key in LADDER:
                self.check_bad(key, {**LADDER, key: value})
                self.check_bad(key, {**LADDER, key: (value, ("",))})
                self.check_bad(key, {**LADDER, key: ((), value)})
                self.check_bad(key, {**LADDER, key: ((0,), (value,))}) if value != "" else None
                self.check_bad(key, {**LADDER, key: ((value,), ("",))}) if value != 0 or value is False else None
        for value in (((0,), ()), ((0,), ("", "")), ((0, 0), ("",)), ((-3,), ("",)), ((0,), ("a",)), ((), ("ba",)),
                      ((0,), ("ab",)), ((1,), ("",)), ((0, 1), ("",)), ((3,), ("",)), ((False,), ("",)), "ab", ((0,), "a"),
                      ((0,), ("",), ()), ((0,), ("c",))):
            self.check_bad(("rung", ""), {**LADDER, ("rung", ""): value})
        for value in (((2, 1), ("",)), ((1, 1), ("",)), ((1,), ("b",)), ((1,), ("",)), ((), ("ab",)), ((0,), ("",))):
            self.check_bad(("rung", "ab"), {**LADDER, ("rung", "ab"): value})
        for key in LADDER:
            self.check_bad(key, {other: value for other, value in LADDER.items() if other != key})
        self.check_bad(("base", ""), {})

    def test_partners_near_and_far(self):
        rng = random.Random(581)
        checked = 0
        for book in [handing(), ladder(), strip(), nest()] + random_books(581, 400) + bare_books(581, 300):
            table = random_table(rng, book)
            if table is None:
                continue
            told = Pairing(book, table)
            pairs = grown_pairing(book, told, 3)
            web = PlainWeb(book.pieces, book.seed, 8)
            for name, other in pairs.items():
                self.assertIn(other, web.ties[name])
                self.assertNotEqual(name, other)
                back = told.partner(book.place(*other))
                self.assertEqual((back.row, back.number), name)
                self.assertIn(other, names(Pairings(book).partners(book.place(*name))))
                checked += 1
        self.assertGreater(checked, 500)

    def test_far_rows(self):
        told = Pairings(ladder()).lowest()
        book = ladder()
        for total in (10 ** 300, 10 ** 300 - 1, 2000, 2001):
            for row in (Row([((0,), total)]), Row([((0, 0, 0), total // 3), ((0,), total % 3)])):
                other = told.partner(book.place(row, 1))
                self.assertEqual(other, book.place(Row([((0,), total)]) + (0,) if total % 2 == 0
                                                   else Row([((0,), total - 1)]), 1))
                self.assertEqual(told.partner(other), book.place(row, 1))
        low = Pairings(handing()).lowest()
        for number in (0, 1):
            far = handing().place(Row([((0, 0, 1), 1), ((1, 0, 1), 10 ** 200)]), number)
            self.assertNotEqual(low.partner(far), far)
            self.assertEqual(low.partner(low.partner(far)), far)
        with self.assertRaises(OtherBook):
            told.partner(rails().place((), 0))

    def test_first_apart_and_equality(self):
        rng = random.Random(582)
        apart = 0
        for book in [handing(), ladder(), strip()] * 5 + random_books(582, 600) + bare_books(582, 400):
            table, other = random_table(rng, book), random_table(rng, book)
            if table is None:
                continue
            one, two = Pairing(book, table), Pairing(book, other)
            place = one.first_apart(two)
            pairs, others = grown_pairing(book, one, 4), grown_pairing(book, two, 4)
            unlike = [name for name in pairs if pairs[name] != others[name]]
            if unlike:
                self.assertEqual((place.row, place.number), min(unlike, key=lambda name: (len(name[0]), name)))
                apart += 1
            elif place is not None:
                self.assertGreater(len(place.row), 4)
            self.assertIs(one == two, place is None)
            self.assertIsNone(two.first_apart(other=Pairing(book, other)))
        self.assertGreater(apart, 25)

    def test_equality_in_one_book_and_in_books_made_apart(self):
        rng = random.Random(15)
        unequal = 0
        for book in [ladder(), handing(), strip()] * 4 + random_books(15, 300) + bare_books(15, 200):
            tables = (random_table(rng, book), random_table(rng, book))
            if tables[0] is None:
                continue
            unequal += not check_equality(self, book, Pairing, tables)
        self.assertGreater(unequal, 10)

    def test_equality_where_places_are_handed_on_as_any_letter(self):
        for turn in itertools.permutations(range(3)):
            for row in itertools.permutations("abc"):
                told = six_pairings(turn, row)
                grown = [grown_pairing(pairing.book, pairing, 2) for pairing in told]
                for one, pairs in zip(told, grown):
                    for other, others in zip(told, grown):
                        unlike = [name for name in pairs if pairs[name] != others[name]]
                        self.assertIs(one == other, unlike == [])
                        place = one.first_apart(other)
                        found = None if place is None else (place.row, place.number)
                        self.assertEqual(found, min(unlike, key=lambda name: (len(name[0]), name), default=None))
                self.assertEqual(len({tuple(pairs.items()) for pairs in grown}), 6)

    def test_equality_with_others(self):
        one = Pairing(ladder(), LADDER)
        turned = {("base", ""): ((0,), ("",)), ("rung", ""): ((2,), ("",))}
        self.assertEqual(one, Pairing(ladder(), dict(reversed(LADDER.items()))))
        self.check_bad(("base", ""), {("base", ""): ((0,), ("ab",)), ("rung", ""): ((0,), ("",))})
        self.check_bad(("rung", ""), turned)
        turned[("rung", "")] = ((0,), ("",))
        self.assertNotEqual(one, Pairing(ladder(), turned))
        place = one.first_apart(Pairing(ladder(), turned))
        self.assertEqual((place.row, place.number), ((), 0))
        strange = Pairings(rails()).lowest()
        self.assertNotEqual(one, strange)
        with self.assertRaises(OtherBook):
            one.first_apart(strange)
        for value in any_values() + [LADDER]:
            self.assertFalse(one == value)


if __name__ == "__main__":
    unittest.main()
