"""[2], [26], [59]: books that grow the same web, where others part, and the least book."""

import random
import unittest

from growwebs.books import Book
from growwebs.errors import WebError
from growwebs.pieces import Piece
from growwebs.sames import least_book, parting, same
from tests.webs import PlainWeb, bare_books, hander, ladder, nest, rails, random_books, strip, tent, twigs

WORDS = ["zz", "base", "q", "other", "k", "mm", "aa", "end", "seed", "b", "a", "x"]


def plain_parting(book, other, depth):
    """The first name at which two plain webs of a depth part, shorter first, or None."""
    one, two = PlainWeb(book.pieces, book.seed, depth), PlainWeb(other.pieces, other.seed, depth)
    found = []
    for name in set(one.letters) | set(two.letters):
        if name not in one.letters or name not in two.letters or one.letters[name] != two.letters[name]:
            found.append(name)
            continue
        def ahead(web):
            return {to: length for to, length in web.ties[name].items() if to < name}
        if ahead(one) != ahead(two):
            found.append(name)
    return min(found, key=lambda name: (len(name[0]), name)) if found else None


def mapped(told, turn):
    return turn[told] if isinstance(told, str) else told


def turned(rng, book):
    """The same web by other kinds: renamed, split, with their mouths in another order, told in another order."""
    copies = {kind: ([kind] if kind == book.seed else [kind, kind + "x"]) for kind in book.pieces}
    if sum(len(names) for names in copies.values()) > 6:
        copies = {kind: [kind] for kind in book.pieces}
    words = rng.sample(WORDS, 6)
    names = {name: word for name, word in zip([name for kind in copies for name in copies[kind]], words)}
    orders = {name: dict(zip("abc"[:book.pieces[kind].mouth], rng.sample("abc"[:book.pieces[kind].mouth],
                                                                          book.pieces[kind].mouth)))
              for kind in copies for name in copies[kind]}
    pieces = {}
    for kind, piece in book.pieces.items():
        for name in copies[kind]:
            buds = []
            for below, row in piece.buds:
                under = rng.choice(copies[below])
                places = {orders[under][letter]: mapped(told, orders[name]) for letter, told in zip("abc", row)}
                buds.append((names[under], tuple(places[letter] for letter in sorted(places))))
            ties = [(mapped(one, orders[name]), mapped(other, orders[name]), length)
                    for one, other, length in piece.ties]
            pieces[names[name]] = Piece(piece.mouth, piece.letters, ties, buds)
    items = list(pieces.items())
    rng.shuffle(items)
    return Book(names[book.seed], dict(items))


def widened(rng, book):
    """The same web with a bud that grows no place behind the others, and with mouth places for nothing."""
    pieces = dict(book.pieces)
    if len(pieces) == 6:
        return book
    pieces["nothing"] = Piece(1, "")
    for kind, piece in book.pieces.items():
        buds = [list(bud) for bud in piece.buds]
        spare = [told for told in list("abc"[:piece.mouth]) + list(range(len(piece.letters)))]
        if len(buds) < 4 and spare and rng.random() < 0.6:
            buds.append(["nothing", (rng.choice(spare),)])
        pieces[kind] = Piece(piece.mouth, piece.letters, piece.ties, buds)
    kind = rng.choice(sorted(book.pieces))
    if kind != book.seed and pieces[kind].mouth < 3:
        wide = dict(pieces)
        for name, piece in pieces.items():
            buds = []
            for below, row in piece.buds:
                spare = [told for told in range(len(piece.letters)) if told not in row]
                if below == kind:
                    if not spare:
                        return Book(book.seed, pieces)
                    row = row + (rng.choice(spare),)
                buds.append((below, row))
            mouth = piece.mouth + (name == kind)
            wide[name] = Piece(mouth, piece.letters, piece.ties, buds)
        try:
            return Book(book.seed, wide)
        except WebError:
            return Book(book.seed, pieces)
    return Book(book.seed, pieces)


def changed(rng, book):
    """The book with one thing changed in one piece, or None."""
    kind = rng.choice(sorted(book.pieces))
    piece = book.pieces[kind]
    what = rng.choice(["letter", "tie", "length", "place", "bud", "row"])
    letters, ties, buds = piece.letters, list(piece.ties), list(piece.buds)
    if what == "letter" and letters:
        at = rng.randrange(len(letters))
        letters = letters[:at] + rng.choice("ab.z") + letters[at + 1:]
    elif what == "tie" and ties:
        ties.pop(rng.randrange(len(ties)))
    elif what == "length" and ties:
        at = rng.randrange(len(ties))
        ties[at] = ties[at][:2] + (rng.choice([1, 2, 7]),)
    elif what == "place" and len(letters) < 6:
        letters += rng.choice("a.")
    elif what == "bud" and buds:
        buds.pop(rng.randrange(len(buds)))
    elif what == "row" and buds:
        at = rng.randrange(len(buds))
        buds[at] = (buds[at][0], tuple(rng.sample(buds[at][1], len(buds[at][1]))))
    try:
        return Book(book.seed, {**book.pieces, kind: Piece(piece.mouth, letters, ties, buds)})
    except WebError:
        return None


class PartingTest(unittest.TestCase):

    def test_the_examples_of_the_document(self):
        self.assertIs(same(ladder(), ladder()), True)
        self.assertIsNone(parting(ladder(), ladder()))
        self.assertIs(same(ladder(), tent()), False)
        self.assertEqual(parting(ladder(), tent()), ((0,), 0))
        self.assertEqual(parting(ladder(), rails()), ((0,), 1))

    def test_books_that_grow_the_same(self):
        rng = random.Random(26)
        for book in [ladder(), hander(), nest(), twigs(), strip(), rails()] * 4 + random_books(26, 300) + bare_books(26, 300):
            other = turned(rng, book)
            self.assertTrue(same(book, other) and same(other, book))
            self.assertIsNone(parting(book, other))
            wide = widened(rng, other)
            self.assertTrue(same(book, wide) and same(wide, book))

    def test_books_with_one_thing_changed(self):
        rng = random.Random(59)
        seen = {}
        for book in [ladder(), hander(), twigs(), strip(), rails()] * 6 + random_books(59, 400) + bare_books(59, 300):
            other = changed(rng, turned(rng, book))
            if other is None:
                continue
            depth = 4
            while depth > 1 and max(len(PlainWeb(one.pieces, one.seed, depth).letters) for one in (book, other)) > 600:
                depth -= 1
            want = plain_parting(book, other, depth)
            told = parting(book, other)
            self.assertEqual(parting(other, book), told)
            self.assertIs(same(book, other), told is None)
            if want is not None:
                self.assertEqual(told, want)
            elif told is not None:
                self.assertGreater(len(told[0]), depth)
            seen[told is None] = seen.get(told is None, 0) + 1
        self.assertGreater(min(seen.values()), 60)

    def test_what_may_differ(self):
        one = Book("s", {"s": Piece(0, "..", [(0, 1, 1)], [("d", (0,)), ("k", (0, 1))]),
                         "k": Piece(2, ".", [("b", 0, 2)], [("d", ("a",)), ("d", ("b",))]), "d": Piece(1, "")})
        other = Book("k", {"k": Piece(0, "..", [(0, 1, 1)], [("e", (0, 1)), ("s", (1,)), ("e", (1, 0))]),
                           "s": Piece(1, ".", [("a", 0, 2)], []), "e": Piece(2, "", [], [("f", ("b",))]),
                           "f": Piece(1, "", [], [("g", ("a",))]), "g": Piece(1, "")})
        self.assertTrue(same(one, other) and same(other, one))
        moved = Book("k", {**other.pieces, "k": Piece(0, "..", [(0, 1, 1)], [("s", (1,)), ("e", (1, 0))])})
        self.assertEqual(parting(one, moved), ((0,), 0))
        tied_there = Book("k", {**other.pieces, "g": Piece(1, ".")})
        self.assertEqual(parting(one, tied_there), ((0, 0, 0), 0))
        self.assertEqual(parting(other=one, one=tied_there), ((0, 0, 0), 0))

    def test_the_first_place_shorter_first(self):
        one = Book("s", {"s": Piece(0, "..", [], [("p", (0,)), ("q", (1,))]),
                         "p": Piece(1, ".", [], [("r", (0,))]), "q": Piece(1, "..", [("a", 1, 1)]), "r": Piece(1, "x")})
        other = Book("s", {**one.pieces, "r": Piece(1, "y"), "q": Piece(1, "..", [("a", 1, 2)])})
        self.assertEqual(parting(one, other), ((1,), 1))
        self.assertEqual(parting(one, Book("s", {**one.pieces, "r": Piece(1, "y")})), ((0, 0), 0))
        self.assertEqual(parting(one, Book("s", {**one.pieces, "s": Piece(0, "..x", [], one.pieces["s"].buds)})), ((), 2))

    def test_ties_to_one_place_only_in_one_web(self):
        one = Book("s", {"s": Piece(0, "..", [], [("k", (0, 1))]), "k": Piece(2, ".", [("a", 0, 1)])})
        for row, want in (((0, 1), None), ((1, 0), ((0,), 0))):
            other = Book("s", {"s": Piece(0, "..", [], [("k", row)]), "k": Piece(2, ".", [("a", 0, 1)])})
            self.assertEqual(parting(one, other), want)
        narrow = Book("s", {"s": Piece(0, "..", [], [("k", (0,))]), "k": Piece(1, ".", [("a", 0, 1)])})
        self.assertTrue(same(one, narrow) and same(narrow, one))
        self.assertEqual(parting(one, Book("s", {**narrow.pieces, "s": Piece(0, "..", [], [("k", (1,))])})), ((0,), 0))

    def test_parting_deep_below(self):
        pieces = {"s": Piece(0, ".", [], [("p", (0,))]), "p": Piece(1, ".", [("a", 0, 1)], [("q", (0,))]),
                  "q": Piece(1, ".", [("a", 0, 1)], [("p", (0,))])}
        others = {"s": Piece(0, ".", [], [("a", (0,))])}
        for kind, below in zip("abcde", "bcdea"):
            others[kind] = Piece(1, "x" if kind == "e" else ".", [("a", 0, 1)], [(below, (0,))])
        self.assertEqual(parting(Book("s", pieces), Book("s", others)), ((0,) * 5, 0))
        others["e"] = Piece(1, ".", [("a", 0, 1)], [("a", (0,))])
        self.assertIsNone(parting(Book("s", pieces), Book("s", others)))


class LeastBookTest(unittest.TestCase):

    def check(self, book):
        least = least_book(book)
        self.assertIsInstance(least, Book)
        self.assertTrue(same(book, least))
        self.assertEqual(least_book(least), least)
        self.assertEqual(sorted(least.pieces), list("abcdef"[:len(least.pieces)]))
        met = []
        for row, kind in sorted(PlainWeb(least.pieces, least.seed, 6).kinds.items(), key=lambda told: (len(told[0]), told)):
            if kind not in met:
                met.append(kind)
        self.assertEqual(met, sorted(met))
        return least

    def test_small_books(self):
        self.assertEqual(len(self.check(ladder()).pieces), 2)
        self.assertEqual(len(self.check(strip()).pieces), 2)
        self.assertEqual(len(self.check(nest()).pieces), 6)
        for book in (tent(), rails(), twigs(), hander()):
            self.check(book)

    def test_equal_least_books_for_books_that_grow_the_same(self):
        rng = random.Random(5959)
        fewer = 0
        for book in [ladder(), hander(), nest(), twigs(), strip(), rails()] * 4 + random_books(5959, 400) + bare_books(5959, 400):
            least = self.check(book)
            for other in (turned(rng, book), widened(rng, book), turned(rng, widened(rng, book))):
                self.assertEqual(least_book(other), least)
                self.assertLessEqual(len(least.pieces), len(other.pieces))
                fewer += len(least.pieces) < len(other.pieces)
        self.assertGreater(fewer, 300)

    def test_no_book_has_fewer_kinds(self):
        """Each two kinds of a least book grow different webs, however their mouths are matched."""
        for book in random_books(595, 200) + bare_books(595, 200):
            least = least_book(book)
            kinds = [kind for kind in least.pieces if kind != least.seed]
            for at, one in enumerate(kinds):
                for other in kinds[:at]:
                    self.assertFalse(self.can_stand_for(least, one, other))

    def can_stand_for(self, book, one, other):
        """Whether both kinds grow the same, for some matching of their mouths."""
        if book.pieces[one].mouth != book.pieces[other].mouth:
            return False
        mouth = book.pieces[one].mouth
        orders = [[]]
        for _ in range(mouth):
            orders = [order + [at] for order in orders for at in range(mouth) if at not in order]
        for order in orders:
            seeds = []
            for kind, row in ((one, tuple(range(mouth))), (other, tuple(order))):
                piece = Piece(0, "." * mouth, [], [(kind, row)])
                pieces = {below: book.pieces[below] for below in book.pieces if below != book.seed}
                seeds.append(Book("top", {**pieces, "top": piece}))
            if same(*seeds):
                return True
        return False

    def test_a_bud_that_grows_nothing_ahead_of_others(self):
        one = Book("s", {"s": Piece(0, "..", [], [("d", (1,)), ("k", (0, 1)), ("d", (0,))]),
                         "k": Piece(2, ".", [("b", 0, 2)]), "d": Piece(1, "", [], [("e", ("a",))]), "e": Piece(1, "")})
        least = self.check(one)
        self.assertEqual(least.pieces["b"], Piece(1, ""))
        self.assertEqual((len(least.pieces), len(least.pieces["a"].buds)), (3, 2))
        self.assertEqual(least.pieces["c"], Piece(1, ".", [("a", 0, 2)]))
        other = Book("s", {"s": Piece(0, "..", [], [("d", (0, 1)), ("k", (1,))]),
                           "k": Piece(1, ".", [("a", 0, 2)]), "d": Piece(2, "")})
        self.assertEqual(least_book(other), least)

    def test_places_that_nothing_tells_apart(self):
        one = Book("s", {"s": Piece(0, "...", [], [("k", (0, 1, 2)), ("k", (2, 1, 0)), ("k", (1, 2, 0))]),
                         "k": Piece(3, ".", [("a", 0, 1), ("b", 0, 1), ("c", 0, 2)], [("m", ("c", 0, "b"))]),
                         "m": Piece(3, ".", [("a", 0, 1), ("b", 0, 1)])})
        rng = random.Random(3)
        least = self.check(one)
        for _ in range(30):
            self.assertEqual(least_book(turned(rng, one)), least)

    def test_mouths_for_nothing(self):
        one = Book("s", {"s": Piece(0, ".", [], [("p", (0,))]), "p": Piece(1, "", [], [("q", ("a",)), ("q", ("a",))]),
                         "q": Piece(1, "..", [(0, 1, 1)], [("p", (1,))])})
        least = self.check(one)
        self.assertEqual(len(least.pieces), 3)
        other = Book("s", {"s": Piece(0, ".", [], [("p", (0,))]), "p": Piece(1, "", [], [("q", ("a",)), ("r", ("a",))]),
                           "q": Piece(1, "..", [(0, 1, 1)], [("u", (1, 0))]),
                           "r": Piece(1, "..", [(0, 1, 1)], [("u", (0, 1))]),
                           "u": Piece(2, "", [], [("q", ("b",)), ("r", ("a",))])})
        self.assertEqual(least_book(other), least)
        self.assertEqual(least_book(book=other), least_book(one))

    def test_a_kind_that_grows_what_the_seed_grows(self):
        book = Book("s", {"s": Piece(0, "x.", [(0, 1, 1)], [("p", (0,))]),
                          "p": Piece(1, "x.", [(0, 1, 1)], [("p", (1,))])})
        least = self.check(book)
        self.assertEqual((len(least.pieces), least.pieces["a"].mouth, least.pieces["b"].mouth), (2, 0, 1))

    def test_kinds_that_differ_far_down(self):
        pieces = {"s": Piece(0, ".", [], [("a", (0,)), ("b", (0,))]), "d": Piece(1, "x", [("a", 0, 1)], [("a", (0,))]),
                  "e": Piece(1, "y", [("a", 0, 1)], [("b", (0,))]),
                  "a": Piece(1, ".", [("a", 0, 1)], [("d", (0,))]), "b": Piece(1, ".", [("a", 0, 1)], [("e", (0,))])}
        self.assertEqual(len(self.check(Book("s", pieces)).pieces), 5)
        pieces["e"] = Piece(1, "x", [("a", 0, 1)], [("b", (0,))])
        self.assertEqual(len(self.check(Book("s", pieces)).pieces), 3)


if __name__ == "__main__":
    unittest.main()
