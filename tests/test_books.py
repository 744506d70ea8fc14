"""[2], [3], [5], [32]: books and their errors."""

import itertools
import random
import unittest

from growwebs.books import Book
from growwebs.errors import BadBook, BadBud, HandedOn, TooMany, WebError
from growwebs.pieces import Piece
from tests.values import any_values
from tests.webs import ladder, rails, tent, twigs

SEED = Piece(0, ".")


class BooksTest(unittest.TestCase):

    def raised(self, *args, **named):
        with self.assertRaises(WebError) as caught:
            Book(*args, **named)
        error = caught.exception
        return (error.__class__,) + tuple(vars(error).values())

    def test_attributes(self):
        pieces = {"s": SEED, "other": Piece(2, "")}
        book = Book("s", pieces)
        self.assertEqual((book.seed, book.pieces), ("s", pieces))
        self.assertIsNot(book.pieces, pieces)
        self.assertIs(book.pieces["s"], SEED)
        self.assertEqual(Book(pieces=pieces, seed="s"), book)

    def test_what_is_passed_is_copied(self):
        pieces = {"s": Piece(0, ".", [], [("k", (0,))]), "k": Piece(1, ".", [("a", 0, 1)])}
        book = Book("s", pieces)
        before = book.grown(3)
        del pieces["k"]
        pieces["s"] = SEED
        self.assertEqual(set(book.pieces), {"s", "k"})
        self.assertEqual(book.grown(3), before)
        self.assertEqual(len(before[0]), 2)

    def test_a_book_keeps_its_web_when_its_dict_is_changed(self):
        book = ladder()
        before = book.grown(3)
        book.pieces.clear()
        self.assertEqual(book.grown(3), before)
        self.assertEqual(book.kind_at((0,)), "rung")

    def test_equality(self):
        self.assertTrue(ladder() == ladder())
        self.assertFalse(ladder() != ladder())
        pieces = ladder().pieces
        turned = Book("base", {kind: pieces[kind] for kind in ("rung", "base")})
        self.assertTrue(turned == ladder())
        more = Book("base", dict(pieces, extra=Piece(0, ".")))
        self.assertFalse(more == ladder())
        self.assertFalse(Book("extra", more.pieces) == more)
        for other in any_values() + [rails(), tent(), twigs(), pieces]:
            if not isinstance(other, Book) or other != ladder():
                self.assertFalse(ladder() == other)
                self.assertFalse(other == ladder())

    def test_a_seed_that_is_no_key(self):
        for value in any_values():
            if value not in ("none", "a"):
                self.assertEqual(self.raised(value, {"none": SEED, "a": SEED}), (BadBook, value))
        self.assertEqual(self.raised("t", {"s": SEED, "K": 5}), (BadBook, "t"))
        self.assertEqual(self.raised("s", {}), (BadBook, "s"))

    def test_kinds_that_are_no_words(self):
        for kind in ("", "K", "a1", "abcdefghi", "a b", "\u00e4", "a\n"):
            self.assertEqual(self.raised("s", {"s": SEED, kind: SEED}), (BadBook, kind))
        self.assertEqual(self.raised("S", {"S": SEED}), (BadBook, "S"))
        self.assertEqual(self.raised("s", {"zz": 1, "s": SEED, "y1": SEED, "x": SEED}), (BadBook, "y1"))
        self.assertEqual(Book("abcdefgh", {"abcdefgh": SEED}).seed, "abcdefgh")

    def test_values_that_are_no_pieces(self):
        for value in any_values():
            if not isinstance(value, Piece):
                self.assertEqual(self.raised("s", {"s": SEED, "k": value, "z": 0}), (BadBook, "k"))
                self.assertEqual(self.raised("s", {"s": value, "z": 0}), (BadBook, "s"))

    def test_a_seed_with_a_mouth_or_without_a_place(self):
        self.assertEqual(self.raised("s", {"s": Piece(1, ".")}), (BadBook, "s"))
        self.assertEqual(self.raised("s", {"s": Piece(0, "")}), (BadBook, "s"))
        # A wrong kind is told ahead of the seed's piece, this ahead of a wrong bud.
        self.assertEqual(self.raised("s", {"s": Piece(0, ""), "t": None}), (BadBook, "t"))
        wrong = Piece(1, ".", [], [("no", (0,))])
        self.assertEqual(self.raised("s", {"s": Piece(0, ""), "a": wrong}), (BadBook, "s"))

    def test_buds_that_do_not_fit(self):
        def pieces(*buds):
            return {"s": SEED, "k": Piece(2, "..", [], buds), "m": Piece(1, ""), "z": Piece(0, ".")}
        good = ("m", (0,))
        self.assertEqual(Book("s", pieces(good)).seed, "s")
        for bud in (("no", (0,)), ("m", (0, 1)), ("k", (0,)), ("k", (0, 1, "a")), ("z", (0,))):
            self.assertEqual(self.raised("s", pieces(bud)), (BadBud, "k", 0))
            self.assertEqual(self.raised("s", pieces(good, good, bud, ("no", (1,)))), (BadBud, "k", 2))
        both = pieces(("no", (0,)))
        both["b"] = Piece(0, ".", [], [good, ("m", (0, )), ("no", (0,))])
        self.assertEqual(self.raised("s", both), (BadBud, "b", 2))

    def test_bad_buds_come_ahead_of_rings(self):
        ring = Piece(1, "", [], [("a", ("a",))])
        self.assertEqual(self.raised("s", {"s": SEED, "a": ring, "z": Piece(1, "", [], [("y", ("a",))])}),
                         (BadBud, "z", 0))

    def test_six_kinds_and_seven(self):
        pieces = {kind: SEED for kind in "abcdef"}
        self.assertEqual(len(Book("a", pieces).pieces), 6)
        pieces["g"] = SEED
        self.assertEqual(self.raised("a", pieces), (TooMany, 6))
        # A ring comes ahead of the number of kinds, this ahead of the number of pieces.
        pieces["g"] = Piece(1, "", [], [("g", ("a",))])
        self.assertEqual(self.raised("a", pieces), (HandedOn, (("g", "a"),)))
        many = self.widespread("e", s=SEED, u=SEED)
        self.assertEqual(self.raised("s", many), (TooMany, 6))

    def widespread(self, last, **more):
        """Pieces in which a place of the kind t lies in 1 + 3 * 65 pieces and those of a last bud."""
        return dict({
            "t": Piece(0, ".", [], [("b", (0,))] * 3 + [(last, (0,))]),
            "b": Piece(1, "", [], [("c", ("a",))] * 4),      # 1 + 4 * 16 = 65
            "c": Piece(1, "", [], [("e", ("a",))] * 3),      # 1 + 3 * 5 = 16
            "e": Piece(1, "", [], [("f", ("a",))] * 4),      # 1 + 4 = 5
            "f": Piece(1, "")}, **more)

    def test_two_hundred_pieces_and_one_more(self):
        for buds in range(4):
            pieces = self.widespread("d", d=Piece(1, "", [], [("f", ("a",))] * buds))
            book = Book("t", pieces)
            self.assertEqual(len(book.pieces_of(book.place((), 0))), 197 + buds)
        pieces = self.widespread("d", d=Piece(1, "", [], [("f", ("a",))] * 4))
        self.assertEqual(self.raised("t", pieces), (TooMany, 200))

    def test_more_pieces_than_two_hundred_out_of_the_web(self):
        self.assertEqual(Book("s", self.widespread("f", s=SEED)).seed, "s")
        self.assertEqual(self.raised("s", self.widespread("e", s=SEED)), (TooMany, 200))

    def test_mouth_places_may_lie_in_more_pieces(self):
        pieces = self.widespread("e", s=SEED)
        pieces["t"] = Piece(1, "", [], [("b", ("a",))] * 4)
        self.assertEqual(Book("s", pieces).seed, "s")

    def test_a_place_on_several_ways_of_handing_on(self):
        # "d" hands both its mouth places on to one bud; each place is counted by itself.
        pieces = {
            "s": Piece(0, "..", [(0, 1, 1)], [("d", (0, 1)), ("d", (1, 0))]),
            "d": Piece(2, "", [], [("e", ("b", "a")), ("f", ("a",))]),
            "e": Piece(2, "", [], [("f", ("b",))]), "f": Piece(1, "")}
        book = Book("s", pieces)
        self.assertEqual(book.pieces_of(book.place((), 0)),
                         [(), (0,), (0, 0), (0, 0, 0), (0, 1), (1,), (1, 0)])


class FiniteTest(unittest.TestCase):

    def test_finite_and_endless(self):
        self.assertFalse(ladder().is_finite)
        self.assertTrue(tent().is_finite)
        self.assertFalse(twigs().is_finite)
        self.assertIs(Book("s", {"s": SEED}).is_finite, True)

    def test_rings_that_the_seed_does_not_reach(self):
        ring = Piece(1, ".", [("a", 0, 1)], [("r", (0,))])
        self.assertTrue(Book("s", {"s": SEED, "r": ring}).is_finite)
        self.assertFalse(Book("s", {"s": Piece(0, ".", [], [("r", (0,))]), "r": ring}).is_finite)
        leads = {"s": Piece(0, ".", [], [("k", (0,))]), "k": Piece(1, "."),
                 "q": Piece(1, ".", [], [("r", (0,))]), "r": ring}
        self.assertTrue(Book("s", leads).is_finite)

    def test_long_rings(self):
        kinds = "bcdef"
        pieces = {kind: Piece(1, ".", [], [(kinds[(at + 1) % 5], (0,))]) for at, kind in enumerate(kinds)}
        self.assertFalse(Book("s", dict(pieces, s=Piece(0, ".", [], [("d", (0,))]))).is_finite)
        pieces["b"] = Piece(1, ".")
        self.assertTrue(Book("s", dict(pieces, s=Piece(0, ".", [], [("d", (0,))]))).is_finite)


def plain_rings(pieces):
    """The ring of [32], by trying all ways."""
    def below(pair):
        kind, letter = pair
        return [(bud, "abc"[row.index(letter)]) for bud, row in pieces[kind].buds if letter in row]
    pairs = [(kind, letter) for kind in sorted(pieces) for letter in "abc"[:pieces[kind].mouth]]
    for start in pairs:
        ways = [(start,)]
        for _ in range(len(pairs)):
            back = [way for way in ways if start in below(way[-1])]
            if back:
                return back[0]
            ways = [way + (pair,) for way in ways for pair in below(way[-1]) if pair not in way]
    return None


class HandedOnTest(unittest.TestCase):

    def ring(self, pieces):
        with self.assertRaises(HandedOn) as caught:
            Book("s", dict(pieces, s=SEED))
        return caught.exception.ring

    def test_one_pair(self):
        self.assertEqual(self.ring({"k": Piece(1, "", [], [("k", ("a",))])}), (("k", "a"),))
        self.assertEqual(self.ring({"k": Piece(3, "..", [], [("k", (0, 1, "c"))])}), (("k", "c"),))

    def test_turned_mouths(self):
        self.assertEqual(self.ring({"k": Piece(2, "", [], [("k", ("b", "a"))])}), (("k", "a"), ("k", "b")))
        self.assertEqual(self.ring({"k": Piece(3, "", [], [("k", ("b", "c", "a"))])}),
                         (("k", "a"), ("k", "c"), ("k", "b")))

    def test_several_kinds(self):
        pieces = {"q": Piece(1, "", [], [("p", ("a",))]), "p": Piece(1, "", [], [("r", ("a",))]),
                  "r": Piece(1, "", [], [("q", ("a",))])}
        self.assertEqual(self.ring(pieces), (("p", "a"), ("r", "a"), ("q", "a")))

    def test_ways_into_rings_belong_to_none(self):
        pieces = {"a": Piece(1, "", [], [("b", ("a",))]), "b": Piece(1, "", [], [("c", ("a",)), ("z", ("a",))]),
                  "c": Piece(1, "", [], [("b", ("a",))]), "z": Piece(1, "", [], [("z", ("a",))])}
        self.assertEqual(self.ring(pieces), (("b", "a"), ("c", "a")))

    def test_the_shortest_way_back(self):
        pieces = {"b": Piece(1, "", [], [("c", ("a",)), ("d", ("a",))]),
                  "c": Piece(1, "", [], [("d", ("a",))]), "d": Piece(1, "", [], [("b", ("a",))])}
        self.assertEqual(self.ring(pieces), (("b", "a"), ("d", "a")))

    def test_the_earliest_bud(self):
        def pieces(*order):
            return {"b": Piece(1, "", [], [(kind, ("a",)) for kind in order]),
                    "c": Piece(1, "", [], [("b", ("a",))]), "d": Piece(1, "", [], [("b", ("a",))])}
        self.assertEqual(self.ring(pieces("d", "c")), (("b", "a"), ("d", "a")))
        self.assertEqual(self.ring(pieces("c", "d")), (("b", "a"), ("c", "a")))

    def test_places_that_end_are_right(self):
        self.assertEqual(Book("s", {"s": SEED, "k": Piece(2, "..", [], [("k", (0, "a"))])}).seed, "s")

    def test_rings_of_random_books(self):
        rng = random.Random(8)
        found = {True: 0, False: 0}
        for _ in range(1500):
            mouths = {kind: rng.randint(1, 3) for kind in "pqrt"[:rng.randint(1, 4)]}
            pieces = {}
            for kind, mouth in mouths.items():
                places = list("abc"[:mouth]) + [0, 1, 2, 3]
                buds = []
                for _ in range(rng.randint(0, 3)):
                    below = rng.choice(list(mouths))
                    buds.append((below, rng.sample(places, mouths[below])))
                pieces[kind] = Piece(mouth, "....", [], buds)
            want = plain_rings(pieces)
            found[want is None] += 1
            try:
                Book("s", dict(pieces, s=SEED))
                self.assertIsNone(want)
            except HandedOn as error:
                self.assertEqual(error.ring, want)
            except TooMany:
                self.assertIsNone(want)
        self.assertGreater(min(found.values()), 200)

    def test_the_order_of_keys_has_no_meaning(self):
        pieces = {"q": Piece(1, "", [], [("p", ("a",))]), "p": Piece(1, "", [], [("q", ("a",))]),
                  "r": Piece(1, "", [], [("r", ("a",))]), "s": SEED}
        for order in itertools.permutations(pieces):
            with self.assertRaises(HandedOn) as caught:
                Book("s", {kind: pieces[kind] for kind in order})
            self.assertEqual(caught.exception.ring, (("p", "a"), ("q", "a")))
