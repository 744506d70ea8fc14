"""[2], [4], [53]: letters that are given anew, and what is nearest with a letter."""

import random
import unittest

from growwebs.books import Book
from growwebs.errors import BadWord, NothingToUndo, OtherBook, TooMany
from growwebs.marks import Marks
from growwebs.pieces import Piece
from growwebs.rows import Row
from tests.values import any_values
from tests.webs import PlainWeb, bare_books, hander, ladder, names, near_web, nest, rails, random_books, tent, twigs


def lettered_tree():
    """Letters far down on one side, two regions, and what is handed on far."""
    return Book("s", {
        "s": Piece(0, "..x", [(0, 1, 2)], [("t", (0,)), ("t", (1,)), ("w", (2,)), ("h", (0, 1))]),
        "t": Piece(1, ".", [("a", 0, 3)], [("u", (0,)), ("u", (0,))]),
        "u": Piece(1, "z.", [("a", 0, 1), ("a", 1, 1)], [("u", (1,))]),
        "h": Piece(2, "", [], [("k", ("b", "a"))]),
        "k": Piece(2, "q", [("a", 0, 1), ("b", 0, 3)], [("k", (0, "a"))]),
        "w": Piece(1, "v", [("a", 0, 1)])})


class Model:
    """Marks as a plain dict, with everything that has been given."""

    def __init__(self, book):
        self.book = book
        self.letters = {}
        self.past = []

    def at(self, name):
        return self.letters.get(name, self.book.letter_of(self.book.place(*name)))

    def give(self, name, letter):
        self.past.append((name, self.at(name)))
        self.letters[name] = letter

    def undo(self):
        name, letter = self.past.pop()
        self.letters[name] = letter

    def changed(self):
        return sorted((name, letter) for name, letter in self.letters.items()
                      if letter != self.book.letter_of(self.book.place(*name)))


def plain_nearest(web, start, letter, letters):
    """What is nearest in a plain web, and how far off."""
    found = [(length, name) for name, (length, _) in web.search(start).items()
             if letters.get(name, web.letters[name]) == letter]
    if not found:
        return None
    least = min(found)[0]
    same = sorted(name for length, name in found if length == least)
    return least, len(same), same[0]


def told_nearest(marks, place, letter):
    told = marks.nearest(place, letter)
    if told is None:
        return None
    assert isinstance(told, tuple)
    return told[0], told[1], (told[2].row, told[2].number)


class MarksTest(unittest.TestCase):

    def check_same(self, marks, model, places):
        self.assertEqual([((place.row, place.number), letter) for place, letter in marks.listed()], model.changed())
        self.assertEqual(len(marks), len(model.changed()))
        self.assertEqual(marks.undoable(), len(model.past))
        for place in places:
            name = (place.row, place.number)
            self.assertEqual(marks[place], model.at(name))
            self.assertIs(place in marks, name in dict(model.changed()))

    def test_histories(self):
        rng = random.Random(53)
        for book in (ladder(), hander(), lettered_tree(), twigs()):
            places = book.grown(2)[0][:9] + book.grown(6)[0][-1:]
            marks, model = Marks(book), Model(book)
            self.assertEqual(vars(marks)["book"], book)
            for _ in range(150):
                if model.past and rng.random() < 0.35:
                    self.assertIsNone(marks.undo())
                    model.undo()
                else:
                    place = rng.choice(places)
                    letter = rng.choice(["x", "z", ".", book.letter_of(place)])
                    marks[place] = letter
                    model.give((place.row, place.number), letter)
                self.check_same(marks, model, places)
            while model.past:
                marks.undo()
                model.undo()
            self.check_same(marks, model, places)
            self.assertEqual(marks.listed(), [])

    def test_letters_of_the_book_at_first(self):
        book = hander()
        marks = Marks(book)
        for place in book.grown(3)[0]:
            self.assertEqual(marks[place], book.letter_of(place))
            self.assertNotIn(place, marks)
        self.assertEqual((len(marks), marks.listed(), marks.undoable()), (0, [], 0))

    def test_two_names_of_one_place(self):
        book = hander()
        marks = Marks(book)
        marks[book.place((0,), "a")] = "k"
        self.assertEqual(marks[book.place((), 2)], "k")
        marks[book.place((0, 0), "b")] = "m"
        self.assertEqual([marks[book.place((), 2)], len(marks), marks.undoable()], ["m", 1, 2])
        marks[hander().place(Row(), 2)] = "z"
        self.assertEqual([len(marks), marks.undoable()], [0, 3])
        marks.undo()
        self.assertEqual(marks[book.place(Row([((0,), 1)]), "a")], "m")

    def test_undo(self):
        book = ladder()
        marks = Marks(book)
        with self.assertRaises(NothingToUndo):
            marks.undo()
        marks[book.place((), 0)] = "."
        self.assertEqual((marks.undoable(), len(marks)), (1, 0))
        marks[book.place((), 0)] = "e"
        marks[book.place((), 0)] = "e"
        marks.undo()
        self.assertEqual(marks[book.place((), 0)], "e")
        marks.undo()
        marks.undo()
        self.assertEqual((marks.undoable(), marks[book.place((), 0)]), (0, "."))
        with self.assertRaises(NothingToUndo):
            marks.undo()

    def test_listed_in_web_order(self):
        book = twigs()
        marks = Marks(book)
        for row, number in (((1, 1), 0), ((0,), 1), ((1,), 0), ((0, 1, 1), 1), ((), 0), ((0,), 0)):
            if row[:1] != (1,):
                marks[book.place(row, number)] = "s"
        marks[book.place((0, 0, 0, 0), 0)] = "t"
        told = names([place for place, _ in marks.listed()])
        self.assertEqual(told, [((), 0), ((0,), 0), ((0,), 1), ((0, 0, 0, 0), 0), ((0, 1, 1), 1)])
        marks.listed().clear()
        self.assertEqual(len(marks.listed()), 5)

    def test_fifty_marks_and_one_more(self):
        book = rails()
        marks = Marks(book)
        for number in range(50):
            marks[book.place((0,) * number, 0)] = "x"
        self.assertEqual(len(marks), 50)
        for letter in ("x", "."):
            if letter == "x":
                with self.assertRaises(TooMany) as caught:
                    marks[book.place((0,) * 50, 0)] = letter
                self.assertEqual(caught.exception.most, 50)
            else:
                marks[book.place((0,) * 50, 0)] = letter
        self.assertEqual((len(marks), marks.undoable()), (50, 51))
        marks[book.place((), 0)] = "y"
        marks[book.place((0,), 0)] = "."
        marks[book.place((), 1)] = "y"
        with self.assertRaises(TooMany):
            marks[book.place((0,), 1)] = "y"
        with self.assertRaises(BadWord):
            marks[book.place((0,), 1)] = "yy"
        self.assertEqual((len(marks), marks.undoable()), (50, 54))

    def test_equality(self):
        one, other = Marks(ladder()), Marks(ladder())
        self.assertEqual(one, other)
        one[one.book.place((0,), 0)] = "x"
        self.assertNotEqual(one, other)
        other[one.book.place((0,), 0)] = "y"
        self.assertNotEqual(one, other)
        other[one.book.place((0,), 0)] = "x"
        self.assertEqual(one, other)
        one.undo()
        self.assertNotEqual(one, other)
        self.assertNotEqual(Marks(ladder()), Marks(rails()))
        for value in any_values():
            self.assertIs(Marks(ladder()) == value, isinstance(value, Marks))

    def test_wrong_letters_and_books(self):
        book = ladder()
        marks = Marks(book)
        marks[book.place((), 1)] = "b"
        place, strange = book.place((), 0), rails().place((), 0)
        for value in any_values() + ["ab", "", "A", ".."]:
            if isinstance(value, str) and len(value) == 1 and value in "abcdefghijklmnopqrstuvwxyz.":
                continue
            for call in (lambda: marks.__setitem__(place, value), lambda: marks.nearest(place, value),
                         lambda: marks.total(value)):
                with self.assertRaises(BadWord) as caught:
                    call()
                self.assertIs(caught.exception.value, value)
            for call in (lambda: marks.__setitem__(strange, value), lambda: marks.nearest(strange, value)):
                with self.assertRaises(OtherBook):
                    call()
        for call in (lambda: marks[strange], lambda: strange in marks):
            with self.assertRaises(OtherBook):
                call()
        self.assertEqual((marks.undoable(), len(marks)), (1, 1))

    def test_marks_are_not_iterated_over(self):
        with self.assertRaises(TypeError):
            iter(Marks(ladder()))


class NearestTest(unittest.TestCase):

    def check(self, book, marks, letters, depth=1, signs="abxz."):
        web, near = near_web(book, depth)
        for name in near:
            for letter in signs:
                want = plain_nearest(web, name, letter, letters)
                told = told_nearest(marks, book.place(*name), letter)
                if want is None or told is None:
                    # A plain web may be too shallow to have any; what is told must be far down then.
                    self.assertTrue(told is None or len(told[2][0]) > depth, (name, letter, want, told))
                else:
                    self.assertEqual(told, want, (name, letter))

    def test_books_as_they_are(self):
        for book in [ladder(), rails(), tent(), twigs(), nest(), hander(), lettered_tree()] + random_books(3, 80) + bare_books(3, 80):
            self.check(book, Marks(book), {}, signs="abqvxyz.")

    def test_marks_that_add_and_take_away(self):
        rng = random.Random(530)
        for book in [ladder(), rails(), hander(), lettered_tree(), twigs()] + random_books(530, 60) + bare_books(530, 60):
            marks, letters = Marks(book), {}
            for place in rng.sample(book.grown(2)[0], min(9, len(book.grown(2)[0]))):
                letter = rng.choice("abxz.")
                marks[place] = letter
                letters[(place.row, place.number)] = letter
            self.check(book, marks, letters)

    def test_the_place_itself_and_several_at_one_distance(self):
        book = ladder()
        marks = Marks(book)
        start = book.place((0, 0), 0)
        self.assertEqual(told_nearest(marks, start, "."), (0, 1, ((0, 0), 0)))
        self.assertIsNone(marks.nearest(start, "x"))
        marks[book.place((0,), 1)] = "x"
        marks[book.place((0, 0, 0), 1)] = "x"
        marks[book.place((0,) * 4, 0)] = "x"
        self.assertEqual(told_nearest(marks, start, "x"), (2, 3, ((0,), 1)))
        marks[start] = "x"
        self.assertEqual(told_nearest(marks, start, "x"), (0, 1, ((0, 0), 0)))
        self.assertEqual(told_nearest(marks, start, "."), (1, 3, ((0,), 0)))

    def test_the_first_in_web_order(self):
        book = twigs()
        marks = Marks(book)
        marks[book.place((0, 1, 0), 1)] = "s"
        marks[book.place((0, 1, 0), 0)] = "s"
        self.assertEqual(told_nearest(marks, book.place((0,), 1), "s"), (2, 1, ((0, 1, 0), 0)))
        marks[book.place((0, 1), 1)] = "s"
        self.assertEqual(told_nearest(marks, book.place((0,), 1), "s"), (2, 2, ((0, 1), 1)))
        marks[book.place((), 0)] = "t"
        self.assertEqual(told_nearest(marks, book.place((0,), 1), "t"), (2, 1, ((), 0)))

    def test_letters_that_only_another_region_has(self):
        book = lettered_tree()
        marks = Marks(book)
        self.assertIsNone(marks.nearest(book.place((), 0), "v"))
        self.assertIsNone(marks.nearest(book.place((2,), 0), "z"))
        self.assertEqual(told_nearest(marks, book.place((), 2), "v"), (1, 1, ((2,), 0)))
        marks[book.place((2,), 0)] = "w"
        self.assertIsNone(marks.nearest(book.place((), 2), "v"))
        self.assertEqual(told_nearest(marks, book.place((), 0), "z"), (4, 2, ((0, 0), 0)))
        self.assertEqual(told_nearest(marks, book.place((), 1), "q"), (1, 1, ((3, 0), 0)))

    def test_many_buds_down(self):
        book = Book("s", {
            "s": Piece(0, ".", [], [("d", (0,))]),
            "d": Piece(1, ".", [("a", 0, 10 ** 90)], [("e", (0,)), ("e", (0,))]),
            "e": Piece(1, ".", [("a", 0, 1)], [("f", (0,)), ("f", (0,))]),
            "f": Piece(1, ".", [("a", 0, 1)], [("g", (0,)), ("g", (0,)), ("d", (0,))]),
            "g": Piece(1, "..n", [("a", 0, 1), (0, 1, 1), (1, 2, 1)], [("g", (2,)), ("g", (1,))])})
        marks = Marks(book)
        self.assertEqual(told_nearest(marks, book.place((), 0), "n"), (10 ** 90 + 5, 8, ((0, 0, 0, 0), 2)))
        marks[book.place((0, 0, 0, 0), 2)] = "."
        self.assertEqual(told_nearest(marks, book.place((), 0), "n"), (10 ** 90 + 5, 7, ((0, 0, 0, 1), 2)))
        marks[book.place((0, 0, 0, 2, 1, 1), 0)] = "m"
        self.assertEqual(told_nearest(marks, book.place((), 0), "m"), (2 * 10 ** 90 + 4, 1, ((0, 0, 0, 2, 1, 1), 0)))
        far = book.place((0,) + (0, 0, 2) * 600, 0)
        self.assertEqual(told_nearest(marks, far, "n")[0], 5)

    def test_long_rows(self):
        book = rails()
        marks = Marks(book)
        for number in range(25):
            marks[book.place((0,) * (1960 + number), 0)] = "x"
            marks[book.place((0,) * (1960 + number), 1)] = "x"
        self.assertEqual(told_nearest(marks, book.place((), 0), "x"), (1960, 1, ((0,) * 1960, 0)))
        self.assertEqual(told_nearest(marks, book.place((0,) * 2000, 1), "x"), (32, 1, ((0,) * 1984, 1)))
        self.assertEqual(told_nearest(marks, book.place((0,) * 1970, 0), "."), (11, 1, ((0,) * 1959, 0)))


class TotalTest(unittest.TestCase):

    def test_finite_webs(self):
        for book in [tent(), nest()] + [book for book in random_books(11, 200) if book.is_finite]:
            web = PlainWeb(book.pieces, book.seed, 9)
            marks = Marks(book)
            for letter in "abx.":
                self.assertEqual(marks.total(letter), list(web.letters.values()).count(letter))
            place = book.grown(2)[0][-1]
            old = marks[place]
            marks[place] = "x"
            self.assertEqual(marks.total("x"), 1)
            self.assertEqual(marks.total(old), list(web.letters.values()).count(old) - 1)

    def test_endless_webs(self):
        book = lettered_tree()
        marks = Marks(book)
        self.assertEqual([marks.total(letter) for letter in "xvzqa."], [1, 1, None, None, 0, None])
        marks[book.place((2,), 0)] = "x"
        marks[book.place((0,), 0)] = "a"
        marks[book.place((0, 0), 0)] = "x"
        self.assertEqual([marks.total(letter) for letter in "xvzqa."], [3, 0, None, None, 1, None])
        self.assertEqual(Marks(hander()).total("x"), 1)
        for book in random_books(12, 100):
            if not book.is_finite:
                near = [book.letter_of(place) for place in book.grown(7, most=9 ** 9)[0]]
                for letter in "ab.":
                    told = Marks(book).total(letter)
                    if told is not None:
                        self.assertEqual(told, near.count(letter))

    def test_counts_without_growing(self):
        pieces = {"s": Piece(0, "x", [], [("a", (0,))] * 4), "e": Piece(1, "yyy")}
        for kind, below in zip("abcd", "bcde"):
            pieces[kind] = Piece(1, "x", [], [(below, (0,))] * 4)
        self.assertEqual(Marks(Book("s", pieces)).total("y"), 3 * 4 ** 5)
        self.assertEqual(Marks(Book("s", pieces)).total("x"), 1 + 4 + 16 + 64 + 256)


if __name__ == "__main__":
    unittest.main()
