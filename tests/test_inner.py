"""[2], [3], [11], [38]: what grows from the kinds of a book."""

import unittest

from growwebs.books import Book
from growwebs.errors import NoKind, NoMouth
from growwebs.inner import Inside
from growwebs.pieces import Piece
from tests.values import any_values
from tests.webs import PlainWeb, count_pairs, hander, ladder, random_books, rails, tent, twigs

Z = Piece(3, "..", [("a", 0, 1), (0, "c", 1), ("c", 1, 1), (1, "b", 1), (0, 1, 9)])


def seeded(**pieces):
    return Book("s", dict(pieces, s=Piece(0, ".")))


class InsideTest(unittest.TestCase):

    def test_the_examples(self):
        inside = Inside(ladder())
        self.assertEqual(inside.least("rung", "a", "b"), 3)
        self.assertEqual(inside.stretch("rung", "a", "b"), (3, 1))
        self.assertEqual(inside.together("rung"), ["ab"])
        inside = Inside(seeded(z=Z))
        self.assertEqual((inside.least("z", "a", "b"), inside.stretch("z", "a", "b")), (4, (11, 1)))

    def test_against_a_plain_search(self):
        searched = through_others = none = 0
        for book in [hander(), ladder(), rails(), tent(), twigs(), seeded(z=Z)] + random_books(3, 250) \
                + random_books(4, 60, (1, 1, 1, 2)):
            inside = Inside(book)
            # A shortest way never holds one for the same kind and letters further down, so the
            # web of this depth has all of them.
            depth = min(count_pairs(book) + 1, 7)
            for kind, piece in book.pieces.items():
                mouth = "abc"[:piece.mouth]
                web = PlainWeb(book.pieces, kind, depth)
                barred = [("mouth", letter) for letter in mouth]
                groups = []
                for one in mouth:
                    least = web.search(("mouth", one))
                    stretch = web.search(("mouth", one), barred)
                    for other in mouth:
                        found = least.get(("mouth", other), (None, 0))[0]
                        self.assertEqual(inside.least(kind, one, other), found)
                        told = stretch.get(("mouth", other))
                        self.assertEqual(inside.stretch(kind, one, other), told if one != other else (0, 1))
                        searched += told is not None and one != other
                        none += found is None
                        through_others += told is not None and told[0] > found
                    group = "".join(letter for letter in mouth if ("mouth", letter) in least)
                    if group not in groups:
                        groups.append(group)
                self.assertEqual(inside.together(kind), groups)
        self.assertGreater(min(searched, through_others, none), 10)

    def test_deep_ways(self):
        # Each round down is longer but for the third kind, whose buds turn the mouth about.
        book = seeded(p=Piece(2, "..", [("a", 0, 10), ("b", 1, 10), (0, 1, 1000)], [("q", (0, 1))]),
                      q=Piece(2, "..", [("a", 0, 5), ("b", 1, 5), (0, 1, 900)], [("r", (1, 0))]),
                      r=Piece(2, ".", [("a", 0, 3)], [("t", ("b", 0))]),
                      t=Piece(2, ".", [("a", 0, 10 ** 100), ("b", 0, 7)], [("u", ("a", 0))]),
                      u=Piece(2, "..", [("a", 0, 1), ("b", 1, 2)], [("u", (0, 1)), ("r", (1, 0))]))
        inside = Inside(book)
        for kind in "pqrtu":
            web = PlainWeb(book.pieces, kind, 8)
            found = web.search(("mouth", "a")).get(("mouth", "b"), (None,))
            self.assertEqual(inside.least(kind, "a", "b"), found[0])
            self.assertEqual(inside.least(kind, "b", "a"), found[0])

    def test_several_ways_of_one_length(self):
        two = Piece(2, "..", [("a", 0, 1), (0, "b", 1), ("a", 1, 1), (1, "b", 1)])
        book = seeded(two=two, four=Piece(2, "", [], [("two", ("a", "b")), ("two", ("b", "a"))]),
                      far=Piece(2, ".", [("a", 0, 1), (0, "b", 1)], [("four", ("a", "b")), ("two", ("a", "b"))]),
                      square=Piece(2, ".", [], [("far", ("a", 0)), ("four", ("b", 0))]))
        inside = Inside(book)
        self.assertEqual(inside.stretch("two", "a", "b"), (2, 2))
        self.assertEqual(inside.stretch("four", "a", "b"), (2, 4))
        self.assertEqual(inside.stretch("far", "b", "a"), (2, 7))
        self.assertEqual(inside.stretch("square", "a", "b"), (4, 28))

    def test_a_letter_and_itself(self):
        inside = Inside(seeded(z=Z, k=Piece(2, "")))
        for kind, letters in (("z", "abc"), ("k", "ab")):
            for letter in letters:
                self.assertEqual(inside.least(kind, letter, letter), 0)
                self.assertEqual(inside.stretch(kind, letter, letter), (0, 1))

    def test_no_way(self):
        inside = Inside(seeded(k=Piece(3, ".", [("a", 0, 1), ("c", 0, 4)])))
        self.assertIsNone(inside.least("k", "a", "b"))
        self.assertIsNone(inside.stretch("k", "b", "c"))
        self.assertEqual(inside.stretch("k", "c", "a"), (5, 1))
        self.assertEqual(inside.together("k"), ["ac", "b"])
        self.assertEqual(inside.together("s"), [])
        self.assertEqual(Inside(rails()).together("rail"), ["a", "b"])

    def test_a_way_only_through_another_mouth_place(self):
        inside = Inside(seeded(k=Piece(3, "..", [("a", 0, 1), ("c", 0, 1), ("c", 1, 2), ("b", 1, 2)])))
        self.assertEqual(inside.least("k", "a", "b"), 6)
        self.assertIsNone(inside.stretch("k", "a", "b"))
        self.assertEqual(inside.together("k"), ["abc"])

    def test_errors(self):
        inside = Inside(seeded(z=Z, k=Piece(2, "")))
        self.assertIs(Inside(book=inside.book).book, inside.book)
        for value in any_values() + ["zz", "Z"]:
            for call in ((inside.least, value, "a", "b"), (inside.stretch, value, None, None), (inside.together, value)):
                with self.assertRaises(NoKind) as caught:
                    call[0](*call[1:])
                self.assertIs(caught.exception.kind, value)
            if not (isinstance(value, str) and value in ("a", "b")):
                for method in (inside.least, inside.stretch):
                    for letters in ((value, "a"), (value, "q"), ("a", value), (value, value)):
                        with self.assertRaises(NoMouth) as caught:
                            method("k", *letters)
                        self.assertEqual(caught.exception.kind, "k")
                        self.assertIs(caught.exception.letter, value)
        for letter in ("c", "", "ab", "abc", 0):
            with self.assertRaises(NoMouth) as caught:
                inside.least("k", letter, "d")
            self.assertEqual(caught.exception.letter, letter)
        with self.assertRaises(NoMouth):
            inside.stretch("s", "a", "a")

    def test_names_of_arguments(self):
        inside = Inside(seeded(z=Z))
        self.assertEqual(inside.least(other="b", one="a", kind="z"), 4)
        self.assertEqual(inside.stretch(other="b", one="a", kind="z"), (11, 1))
        self.assertEqual(inside.together(kind="z"), ["abc"])

    def test_lists_are_new(self):
        inside = Inside(seeded(z=Z))
        inside.together("z").append("d")
        self.assertEqual(inside.together("z"), ["abc"])

    def test_books_with_other_lengths_in_between(self):
        def book(length):
            return seeded(k=Piece(2, ".", [("a", 0, 1), ("b", 0, length)]))
        first = Inside(book(1))
        second = Inside(book(5))
        self.assertEqual([inside.least("k", "a", "b") for inside in (first, second, first, Inside(book(1)))],
                         [2, 6, 2, 2])
