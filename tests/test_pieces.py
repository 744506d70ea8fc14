"""[2], [3], [31]: pieces."""

import unittest

from growwebs.errors import BadPiece
from growwebs.pieces import Piece, hanging_at
from tests.values import Spy, any_values


class PiecesTest(unittest.TestCase):

    def bad(self, field, *args, **named):
        with self.assertRaises(BadPiece) as caught:
            Piece(*args, **named)
        self.assertEqual(caught.exception.field, field)

    def test_mouth(self):
        for mouth in range(4):
            self.assertEqual(Piece(mouth, "").mouth, mouth)
        for mouth in (-1, 4, 10 ** 30, True, False, "2", None, [1], 1.0):
            self.bad("mouth", mouth, "")

    def test_letters(self):
        for letters in ("", ".", "az.", "abcdef", "......"):
            self.assertEqual(Piece(1, letters).letters, letters)
        for letters in ("abcdefg", ".......", "A", "a ", "1", "\u00e4", "a\n", ["a"], None, 3, ("a", "b")):
            self.bad("letters", 1, letters)

    def test_mouth_ties_that_are_none(self):
        self.bad("ties", 2, ".", [("a", "b", 1)])
        self.bad("ties", 2, "..", [(0, 1, 1), ("b", "a", 1)])

    def test_ties_that_are_none(self):
        for tie in ((0, 0, 1), ("a", "a", 1), (0, 2, 1), (0, -1, 1), (0, "c", 1), (0, "d", 1),
                    (0, "", 1), (0, "ab", 1), (True, 1, 1), (0, True, 1), (False, 1, 1),
                    (0, 1), (0, 1, 1, 1), (), "001", None, 5, {0: 1}, (0, None, 1), (0, [1], 1),
                    (0, "0", 1), ([0], 1, 1)):
            self.bad("ties", 2, "..", [tie])
            self.bad("ties", 2, "..", ((0, 1, 4), tie))

    def test_lengths(self):
        for length in (1, 2, 10 ** 100):
            self.assertEqual(Piece(0, "..", [(0, 1, length)]).ties, ((0, 1, length),))
        for length in (0, -1, 10 ** 100 + 1, True, "1", None, [1]):
            self.bad("ties", 0, "..", [(0, 1, length)])

    def test_two_ties_of_the_same_places(self):
        self.bad("ties", 1, "..", [(0, 1, 1), (0, 1, 1)])
        self.bad("ties", 1, "..", [(0, 1, 1), (1, 0, 2)])
        self.bad("ties", 1, "..", [(0, "a", 1), (1, 0, 3), ("a", 0, 2)])

    def test_ties_as_a_whole(self):
        for ties in ("", None, 1, {}, {(0, 1, 1): 1}, True):
            self.bad("ties", 0, "..", ties)

    def test_ties_are_told_in_order(self):
        ties = [("c", 1, 7), (1, 0, 2), ("a", 2, 1), ["b", 0, 3], (2, 0, 9), (0, "a", 10), (1, 2, 5)]
        want = ((0, 1, 2), (0, 2, 9), (0, "a", 10), (0, "b", 3), (1, 2, 5), (1, "c", 7), (2, "a", 1))
        self.assertEqual(Piece(3, "...", ties).ties, want)
        self.assertEqual(Piece(3, "...", tuple(ties[::-1])).ties, want)
        turned = [[other, one, length] for one, other, length in ties]
        self.assertEqual(Piece(3, "...", turned).ties, want)
        self.assertIsInstance(Piece(3, "...", turned).ties[0], tuple)

    def test_buds(self):
        buds = [["rung", [0, "a"]], ("a", ("b",)), ("abcdefgh", (1, 0, "b")), ["z", ["a", "b"]]]
        want = (("rung", (0, "a")), ("a", ("b",)), ("abcdefgh", (1, 0, "b")), ("z", ("a", "b")))
        self.assertEqual(Piece(2, "..", [], buds).buds, want)
        self.assertEqual(Piece(2, "..", [], tuple(buds)).buds, want)
        self.bad("buds", 2, "..", [], buds + [("z", ("a",))])

    def test_buds_that_are_none(self):
        for bud in (("k", (0, 0)), ("k", ("a", "a")), ("k", ()), ("k", (0, 1, "a", "b")),
                    ("k", (2,)), ("k", (-1,)), ("k", ("c",)), ("k", ("ab",)), ("k", "a"),
                    ("k", (True,)), ("k", (0, False)), ("k", {0: 1}), ("k", 0), ("k", None),
                    ("", (0,)), ("abcdefghi", (0,)), ("K", (0,)), ("k1", (0,)), (1, (0,)),
                    (None, (0,)), (("k",), (0,)), ("k",), ("k", (0,), 1), "k0", None, {}, 3):
            self.bad("buds", 2, "..", [], [bud])
            self.bad("buds", 2, "..", [], (("k", (0,)), bud))
        for buds in ("", None, 2, {}, {"k": (0,)}):
            self.bad("buds", 2, "..", [], buds)

    def test_the_first_wrong_argument_is_told(self):
        wrong = {"mouth": 5, "letters": "?", "ties": [(0, 9, 1)], "buds": [("k", (9,))]}
        right = {"mouth": 1, "letters": "..", "ties": [], "buds": []}
        names = list(right)
        for index, field in enumerate(names):
            for later in names[index:]:
                given = dict(right)
                given[field], given[later] = wrong[field], wrong[later]
                self.bad(field, **given)
            rest = {name: Spy() for name in names[index + 1:]}
            self.bad(field, **dict(right, **{field: wrong[field]}, **rest))

    def test_any_values(self):
        for value in any_values():
            is_mouth = isinstance(value, int) and not isinstance(value, bool) and 0 <= value <= 3
            if not is_mouth:
                self.bad("mouth", value, "..")
            if not isinstance(value, str) or value not in ("", "a", "b", "ab", "none"):
                self.bad("letters", 2, value)
            empty = isinstance(value, (list, tuple)) and len(value) == 0
            if not empty:
                self.bad("ties", 2, "..", value)
                self.bad("buds", 2, "..", [], value)
            if value != (0, "a", 1):
                self.bad("ties", 2, "..", [value])
            if value not in (("a",), ["a", 0], (0, "a", 1)):
                self.bad("buds", 2, "..", [], [("k", value)])
            self.bad("buds", 2, "..", [], [value])
            if not (isinstance(value, str) and value in ("a", "b")) and not is_mouth:
                self.bad("ties", 2, "....", [(3, value, 1)])
                self.bad("ties", 2, "....", [(value, 3, 1)])
                self.bad("buds", 2, "....", [], [("k", ("a", value))])
            if not isinstance(value, int) or isinstance(value, bool) or not 1 <= value <= 10 ** 100:
                self.bad("ties", 2, "....", [(0, 1, value)])
            if not isinstance(value, str) or value not in ("a", "b", "ab", "none"):
                self.bad("buds", 2, "....", [], [(value, (0,))])

    def test_arguments_by_name_in_another_order(self):
        piece = Piece(buds=[("k", (0,))], letters="a.", ties=[(1, 0, 3)], mouth=1)
        self.assertEqual(piece, Piece(1, "a.", [(0, 1, 3)], [("k", (0,))]))

    def test_defaults(self):
        self.assertEqual((Piece(2, ".").ties, Piece(2, ".").buds), ((), ()))

    def test_what_is_passed_is_copied(self):
        ties = [[0, 1, 3]]
        buds = [["k", [0, 1]]]
        piece = Piece(0, "..", ties, buds)
        ties[0][2] = 9
        ties.append((0, 5, 5))
        buds[0][1].append(7)
        buds.append(3)
        self.assertEqual((piece.ties, piece.buds), (((0, 1, 3),), (("k", (0, 1)),)))

    def test_arguments_stay_as_they_are(self):
        ties = [("a", 1, 3), [1, 0, 2]]
        buds = [["k", ["a", 0]]]
        Piece(1, "..", ties, buds)
        self.assertEqual((ties, buds), ([("a", 1, 3), [1, 0, 2]], [["k", ["a", 0]]]))

    def test_equality(self):
        told = (1, "a.", ((0, 1, 3), (0, "a", 1)), (("k", (0,)),))
        piece = Piece(*told)
        self.assertTrue(piece == Piece(1, "a.", [["a", 0, 1], [1, 0, 3]], [["k", [0]]]))
        for other in (Piece(2, *told[1:]), Piece(1, "..", *told[2:]), Piece(1, "a.", told[2][:1], told[3]),
                      Piece(1, "a.", told[2]), Piece(1, "a.", told[2], [("k", (1,))])):
            self.assertFalse(piece == other)
            self.assertTrue(piece != other)
        for other in any_values() + [told]:
            if not isinstance(other, Piece):
                self.assertFalse(piece == other)
                self.assertFalse(other == piece)

    def test_buds_that_hang_at_a_place(self):
        buds = [("k", ("b", 0, "a")), ("m", (1,)), ("k", ("c", "b", 1)), ("n", (0, "a"))]
        piece = Piece(3, "..", [], buds)
        for told in ("a", "b", "c", 0, 1):
            want = [(number, kind, letter) for number, (kind, row) in enumerate(buds)
                    for letter, place in zip("abc", row) if place == told]
            self.assertEqual(hanging_at(piece, told), want)
        self.assertEqual(hanging_at(piece, "a"), [(0, "k", "c"), (3, "n", "b")])
        self.assertEqual(hanging_at(Piece(1, "."), 0), [])
