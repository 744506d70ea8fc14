"""[2], [54], [55]: how near each place is to a place with a letter."""

import unittest

from growwebs.books import Book
from growwebs.covers import Lonely, every, lonely, states
from growwebs.distances import distance
from growwebs.errors import BadNumber, BadWord, TooMany
from growwebs.inner import Inside
from growwebs.lanes import lanes
from growwebs.pieces import Piece
from tests.values import any_values
from tests.webs import PlainWeb, bare_books, hander, ladder, nest, rails, random_books, tent, twigs

LETTERS = "abcdefghijklmnopqrstuvwxyz."


def cared():
    """The ladder of the document, with letters on one side of its rungs."""
    book = ladder()
    rung = Piece(2, "s.", book.pieces["rung"].ties, book.pieces["rung"].buds)
    return Book("base", {"base": book.pieces["base"], "rung": rung})


def hedge(length):
    """A path with long ties; at each of its places the letter hangs."""
    return Book("s", {
        "s": Piece(0, "x", [], [("p", (0,))]),
        "p": Piece(1, ".", [("a", 0, length)], [("p", (0,)), ("e", (0,))]),
        "e": Piece(1, "x", [("a", 0, 1)])})


def falling(length):
    """A path with the letter at its seed alone."""
    return Book("s", {
        "s": Piece(0, "x", [], [("p", (0,))]),
        "p": Piece(1, ".", [("a", 0, length)], [("p", (0,))])})


def shelves(length):
    """Two paths side by side, one with letters; a tie from one to the other at the seed only."""
    return Book("s", {
        "s": Piece(0, "x.", [(0, 1, length)], [("p", (0, 1))]),
        "p": Piece(2, "x.", [("a", 0, 1), ("b", 1, 1)], [("p", (0, 1))])})


def plain_cares(book, letter, depth, far):
    """For all names to a depth their cares in a plain web that is grown far."""
    web = PlainWeb(book.pieces, book.seed, far)
    lettered = [name for name in web.letters if web.letters[name] == letter]
    cares = {}
    for name in lettered:
        for other, (length, _) in web.search(name).items():
            cares[other] = min(length, cares.get(other, length))
    return web, cares


def plain_states(book, letter, radius, depth, far):
    """The states of all pieces to a depth, in order, and the first place without a care."""
    web, cares = plain_cares(book, letter, depth, far)
    found, first = [], None
    for row in sorted([row for row in web.kinds if len(row) <= depth], key=lambda row: (len(row), row)):
        kind = web.kinds[row]
        piece = book.pieces[kind]
        known = {told: cares.get(web.told[(row, told)]) for told in list("abc"[:piece.mouth])
                 + list(range(len(piece.letters)))}
        known = {told: None if care is None or care > radius else care for told, care in known.items()}
        state = (kind, tuple(known[told] for told in "abc"[:piece.mouth]))
        if state not in found:
            found.append(state)
        for number in range(len(piece.letters)):
            if known[number] is None and first is None:
                first = (row, number)
    return found, first


class StatesTest(unittest.TestCase):

    def test_the_order_of_the_states(self):
        self.assertEqual(states(cared(), "s", 5), [("base", ()), ("rung", (1, 2)), ("rung", (0, 1))])
        self.assertEqual(states(cared(), "s", 1), [("base", ()), ("rung", (1, None)), ("rung", (0, 1))])
        self.assertEqual(states(cared(), "s", 0), [("base", ()), ("rung", (None, None)), ("rung", (0, None))])
        self.assertEqual(states(cared(), "t", 10 ** 40), [("base", ()), ("rung", (None, None))])
        self.assertEqual(states(tent(), ".", 0), [("s", ()), ("k", (0, 0))])

    def test_against_a_plain_reckoning(self):
        checked = 0
        for book in [ladder(), cared(), rails(), twigs(), tent(), nest(), hander()] + random_books(54, 60) + bare_books(54, 40):
            far = 8
            while far > 5 and len(PlainWeb(book.pieces, book.seed, far).letters) > 300:
                far -= 1
            for letter in "a.":
                for radius in (0, 1, 3):
                    want, first = plain_states(book, letter, radius, far - 4, far)
                    told = states(book, letter, radius)
                    # Ties have a length of at least 1, and all short ways lie in the plain web.
                    if len(told) > len(want):
                        told = [state for state in told if state in want]
                    self.assertEqual(told, want)
                    place = every(book, letter, radius)
                    if first is not None:
                        self.assertEqual((place.row, place.number), first)
                    elif place is not None:
                        self.assertGreater(len(place.row), far - 4)
                    checked += 1
        self.assertGreater(checked, 500)

    def test_two_hundred_states_and_one_more(self):
        for radius, many in ((197, 200), (198, 201)):
            if many == 200:
                self.assertEqual(len(states(falling(1), "x", radius)), 200)
                self.assertEqual(every(falling(1), "x", radius).row, (0,) * 198)
            else:
                for call in (states, every):
                    with self.assertRaises(TooMany) as caught:
                        call(falling(1), "x", radius)
                    self.assertEqual(caught.exception.most, 200)
        self.assertEqual(len(states(falling(10 ** 50), "x", 10 ** 51)), 13)

    def test_letters_ahead_of_numbers(self):
        book = ladder()
        for value in any_values():
            for call in (states, every):
                if not (isinstance(value, str) and len(value) == 1 and value in LETTERS):
                    with self.assertRaises(BadWord) as caught:
                        call(book, value, value)
                    self.assertIs(caught.exception.value, value)
                if not isinstance(value, int) or isinstance(value, bool) or value < 0:
                    with self.assertRaises(BadNumber) as caught:
                        call(book, "a", value)
                    self.assertIs(caught.exception.value, value)

    def test_what_is_returned_is_new(self):
        book = cared()
        told = states(book, "s", 3)
        told.clear()
        self.assertEqual(len(states(letter="s", radius=3, book=book)), 3)
        self.assertTrue(all(isinstance(state, tuple) and isinstance(state[1], tuple) for state in states(book, "s", 3)))


class EveryTest(unittest.TestCase):

    def test_the_example(self):
        book = cared()
        told = every(book, "s", 1)
        self.assertEqual((told.row, told.number), ((), 1))
        self.assertIsNone(every(book, "s", 2))
        self.assertIsNone(every(book, ".", 1))

    def test_radius_0_and_regions_without_the_letter(self):
        told = every(cared(), "s", 0)
        self.assertEqual((told.row, told.number), ((), 0))
        told = every(cared(), ".", 0)
        self.assertEqual((told.row, told.number), ((0,), 0))
        told = every(shelves(5), "x", 10)
        self.assertEqual((told.row, told.number), ((0,) * 6, 1))
        book = Book("s", {"s": Piece(0, "x.", [], [("p", (0,)), ("p", (1,))]), "p": Piece(1, ".", [("a", 0, 1)])})
        self.assertEqual((every(book, "x", 10 ** 99).row, every(book, "x", 10 ** 99).number), ((), 1))
        self.assertIsNone(every(ladder(), ".", 0))
        self.assertEqual(every(ladder(), "a", 7).row, ())


class LonelyTest(unittest.TestCase):

    def check(self, book, letter):
        """That a Lonely is right, by what is told of the spot, or of the strand."""
        told = lonely(book, letter)
        self.assertIsInstance(told, Lonely)
        have = {name for name, value in vars(told).items() if value is not None}
        if told.verdict == "never":
            self.assertEqual(have, {"verdict", "spot"})
            self.check_never(book, letter, told.spot)
        elif told.verdict == "endless":
            self.assertEqual(have, {"verdict", "head", "part", "turn"})
            self.check_endless(book, letter, told)
        else:
            self.assertEqual((told.verdict, have), ("most", {"verdict", "radius", "spot"}))
            self.assertIsNone(every(book, letter, told.radius))
            if told.radius > 0:
                self.assertIsNotNone(every(book, letter, told.radius - 1))
            self.assertLessEqual(len(told.spot.row), 2000)
            self.check_radius(book, letter, told)
        return told.verdict

    def check_never(self, book, letter, spot):
        web = PlainWeb(book.pieces, book.seed, len(spot.row) + 4)
        region = web.search((spot.row, spot.number))
        self.assertNotIn(letter, [web.letters[name] for name in region])

    def check_endless(self, book, letter, told):
        kind = book.kind_at(told.head)
        self.assertTrue(isinstance(told.head, tuple) and isinstance(told.turn, tuple) and told.turn)
        self.assertIn(told.part, Inside(book).together(kind))
        level = {(kind, told.part)}
        for number in told.turn:
            level = {(below, part) for here in level for bud, below, part in lanes(book, *here) if bud == number}
        self.assertIn((kind, told.part), level)
        below = PlainWeb(book.pieces, kind, 6)
        for name in below.search(("mouth", told.part[0])):
            self.assertNotEqual(below.letters.get(name), letter)

    def check_radius(self, book, letter, told):
        web = PlainWeb(book.pieces, book.seed, min(len(told.spot.row) + 5, 8))
        name = (told.spot.row, told.spot.number)
        if name in web.letters:
            near = [length for other, (length, _) in web.search(name).items() if web.letters[other] == letter]
            if near:
                self.assertGreaterEqual(min(near), told.radius)

    def test_the_example(self):
        told = lonely(cared(), "s")
        self.assertEqual((told.verdict, told.radius, told.spot), ("most", 2, cared().place((), 1)))

    def test_the_three_verdicts(self):
        self.assertEqual(lonely(falling(3), "x").verdict, "endless")
        self.assertEqual(lonely(falling(3), "y").verdict, "never")
        self.assertEqual(lonely(falling(3), ".").verdict, "most")
        self.assertEqual(lonely(falling(3), ".").radius, 3)
        told = lonely(shelves(5), "x")
        self.assertEqual((told.verdict, told.part, told.turn), ("endless", "b", (0,)))
        for book, letter in ((falling(3), "x"), (falling(3), "y"), (falling(3), "."), (shelves(5), "x"),
                             (hander(), "x"), (hander(), "v"), (hander(), "."), (hedge(9), "x"), (hedge(9), ".")):
            self.check(book, letter)

    def test_random_webs(self):
        seen = {}
        for book in random_books(55, 400) + bare_books(55, 300):
            for letter in "ab.":
                verdict = self.check(book, letter)
                seen[verdict] = seen.get(verdict, 0) + 1
        self.assertGreater(min(seen.values()), 20)
        self.assertEqual(len(seen), 3)

    def test_far_spots(self):
        told = lonely(hedge(10 ** 60), "x")
        self.assertEqual((told.verdict, told.radius), ("most", 1))
        book = Book("s", {"s": Piece(0, "x.", [(0, 1, 10 ** 99)], [("p", (1,))]),
                          "p": Piece(1, ".....", [("a", 0, 1), (0, 1, 1), (1, 2, 1), (2, 3, 1), (3, 4, 1)])})
        told = lonely(book, "x")
        self.assertEqual((told.radius, told.spot), (10 ** 99 + 5, book.place((0,), 4)))

    def test_too_many_in_the_case_most_alone(self):
        pieces = {"s": Piece(0, "x", [], [("a", (0,))]), "f": Piece(1, ".", [("a", 0, 1)])}
        for at, (kind, below) in enumerate(zip("abcd", "bcdf")):
            pieces[kind] = Piece(1, "....", [("a", number, (number + 1) * 5 ** at) for number in range(4)],
                                 [(below, (number,)) for number in range(4)])
        book = Book("s", pieces)
        with self.assertRaises(TooMany) as caught:
            lonely(book, "x")
        self.assertEqual(caught.exception.most, 200)
        self.assertEqual(lonely(book, "y").verdict, "never")
        self.assertEqual(lonely(book, ".").verdict, "most")
        pieces["d"] = Piece(1, ".", [("a", 0, 1)])
        told = lonely(Book("s", pieces), "x")
        self.assertEqual((told.verdict, told.radius), ("most", 4 * 31 + 1))
        self.assertEqual(len(states(Book("s", pieces), "x", 10 ** 9)), 1 + 1 + 4 + 16 + 64)
        pieces["f"] = Piece(1, ".", [("a", 0, 1)], [("f", (0,))])
        pieces["d"] = book.pieces["d"]
        self.assertEqual(lonely(Book("s", pieces), "x").verdict, "endless")

    def test_wrong_letters(self):
        for value in any_values():
            if not (isinstance(value, str) and len(value) == 1 and value in LETTERS):
                with self.assertRaises(BadWord) as caught:
                    lonely(ladder(), value)
                self.assertIs(caught.exception.value, value)

    def test_the_care_of_the_spot(self):
        for book in random_books(56, 60):
            told = lonely(book, "a")
            if told.verdict == "most":
                near = [place for place in book.grown(min(len(told.spot.row) + 3, 6), most=10 ** 6)[0]
                        if book.letter_of(place) == "a"][:40]
                lengths = [distance(told.spot, place) for place in near]
                self.assertTrue(all(length is None or length >= told.radius for length in lengths))


if __name__ == "__main__":
    unittest.main()
