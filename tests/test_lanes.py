"""[2], [13], [38], [49]: parts, strands and lanes."""

import unittest

from growwebs.books import Book
from growwebs.errors import NoKind, NoPart
from growwebs.inner import Inside
from growwebs.lanes import grows_on, lanes
from growwebs.pieces import Piece
from tests.values import any_values
from tests.webs import PlainWeb, count_pairs, hander, ladder, nest, rails, random_books, tent, twigs


def reached(web, names):
    """All names to which ways lead from some names."""
    found = set()
    for name in names:
        found |= set(web.search(name))
    return found


def joining():
    """A kind whose mouth places are joined by what hangs deep below alone, and one where they are not."""
    return Book("s", {
        "s": Piece(0, "...", [], [("p", (0, 1, 2)), ("u", (0, 1))]),
        "p": Piece(3, ".", [("c", 0, 1)], [("q", ("a", "b"))]),
        "q": Piece(2, "..", [("a", 0, 1), ("b", 1, 1)], [("r", (0, 1))]),
        "r": Piece(2, ".", [("a", 0, 5), ("b", 0, 5)], [("t", (0,))]),
        "t": Piece(1, ".", [("a", 0, 1)], [("t", (0,))]),
        "u": Piece(2, "..", [("a", 0, 1), ("b", 1, 1)], [("u", (1, 0)), ("t", (1,))])})


class LanesTest(unittest.TestCase):

    def test_the_example(self):
        book = rails()
        self.assertEqual(Inside(book).together("rail"), ["a", "b"])
        self.assertEqual(lanes(book, "rail", "a"), [(0, "rail", "a")])
        self.assertEqual(lanes(book, "rail", "b"), [(0, "rail", "b")])
        self.assertIs(grows_on(book, "rail", "a"), True)

    def test_parts_that_are_joined_deep_below(self):
        book = joining()
        self.assertEqual(Inside(book).together("p"), ["ab", "c"])
        self.assertEqual(lanes(book, "p", "ab"), [(0, "q", "ab")])
        self.assertEqual(lanes(book, "p", "c"), [])
        self.assertEqual(lanes(book, "q", "ab"), [(0, "r", "ab")])
        self.assertEqual(lanes(book, "r", "ab"), [(0, "t", "a")])
        self.assertEqual(lanes(book, "u", "a"), [(0, "u", "b")])
        self.assertEqual(lanes(book, "u", "b"), [(0, "u", "a"), (1, "t", "a")])
        self.assertEqual([grows_on(book, kind, part) for kind, part in (("p", "ab"), ("p", "c"), ("q", "ab"), ("t", "a"))],
                         [True, False, True, True])

    def test_several_lanes_through_one_bud(self):
        book = Book("s", {"s": Piece(0, ".", [], [("p", (0,))]),
                          "p": Piece(1, "..", [("a", 0, 1), ("a", 1, 1)], [("q", (1, 0)), ("q", ("a", 1))]),
                          "q": Piece(2, "..", [("a", 0, 1), ("b", 1, 1)])})
        self.assertEqual(lanes(book, "p", "a"), [(0, "q", "a"), (0, "q", "b"), (1, "q", "a"), (1, "q", "b")])
        self.assertFalse(grows_on(book, "p", "a"))

    def test_against_a_plain_growing(self):
        several = 0
        for book in [hander(), ladder(), tent(), rails(), twigs(), nest(), joining()] + random_books(101, 120):
            for kind, piece in book.pieces.items():
                web = PlainWeb(book.pieces, kind, min(count_pairs(book) + 3, 7))
                for part in Inside(book).together(kind):
                    found = reached(web, [("mouth", letter) for letter in part])
                    want = []
                    for bud, (below, row) in enumerate(piece.buds):
                        for other in Inside(book).together(below):
                            names = [web.told[((bud,), letter)] for letter in other]
                            inside = [name in found for name in names]
                            self.assertEqual(all(inside), any(inside))
                            if all(inside):
                                want.append((bud, below, other))
                    self.assertEqual(lanes(book, kind, part), want)
                    several += len(want) != len({bud for bud, _, _ in want})
                    # Where it does not grow on, all is there once no new strands are met.
                    if not grows_on(book, kind, part) and len(book.pieces) < 4:
                        more = PlainWeb(book.pieces, kind, min(count_pairs(book) + 4, 8))
                        self.assertEqual(reached(more, [("mouth", letter) for letter in part]), found)
        self.assertGreater(several, 5)

    def test_whether_it_grows_on(self):
        for book in [hander(), ladder(), tent(), rails(), joining()] + random_books(102, 120):
            for kind in book.pieces:
                for part in Inside(book).together(kind):
                    # A chain of lanes with more strands than there are comes to one of them twice.
                    level = {(kind, part)}
                    for _ in range(20):
                        level = {(below, other) for here in level for _, below, other in lanes(book, *here)}
                    self.assertIs(grows_on(book, kind, part), bool(level))

    def test_wrong_values(self):
        book = ladder()
        for value in any_values():
            for call in (lanes, grows_on):
                with self.assertRaises(NoKind) as caught:
                    call(book, value, None)
                self.assertIs(caught.exception.kind, value)
                if value != "ab":
                    with self.assertRaises(NoPart) as caught:
                        call(book, "rung", value)
                    self.assertEqual(caught.exception.kind, "rung")
                    self.assertIs(caught.exception.part, value)
                with self.assertRaises(NoPart):
                    call(book, "base", value)
        for call in (lanes, grows_on):
            with self.assertRaises(NoPart):
                call(rails(), "rail", "ab")
            with self.assertRaises(NoPart):
                call(book, "rung", "ba")

    def test_lists_are_new_and_names_of_arguments(self):
        book = ladder()
        lanes(book, "rung", "ab").clear()
        self.assertEqual(lanes(part="ab", kind="rung", book=book), [(0, "rung", "ab")])
        self.assertTrue(grows_on(part="ab", kind="rung", book=book))
        Inside(book).together("rung").clear()
        self.assertEqual(Inside(book).together("rung"), ["ab"])
