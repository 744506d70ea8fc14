"""[2], [5], [6], [7], [8], [9], [12], [44], [45], [61]: far distances and tales of distances."""

import random
import unittest

from growwebs.books import Book
from growwebs.distances import distance
from growwebs.errors import NoPiece, NoPlace, NotBack, OtherBook, TooFar
from growwebs.far import far_distance, tale_between, tale_to
from growwebs.pieces import Piece
from growwebs.rows import Loop, Row
from growwebs.tales import Tale
from tests.values import any_values
from tests.webs import bare_books, hander, ladder, near_web, rails, random_books, tent, twigs

FAR = 10 ** 300


def down(book, row, most, rng):
    """A row of at most so many more buds, and the kind at its end."""
    kind = book.kind_at(row)
    for _ in range(rng.randrange(most + 1)):
        if not book.pieces[kind].buds:
            break
        number = rng.randrange(len(book.pieces[kind].buds))
        row, kind = row + (number,), book.pieces[kind].buds[number][0]
    return row, kind


def random_word(book, kind, rng, most=5):
    """A word that leads from a kind back to it, or None."""
    here, word = kind, ()
    for _ in range(most):
        if not book.pieces[here].buds:
            return None
        number = rng.randrange(len(book.pieces[here].buds))
        word, here = word + (number,), book.pieces[here].buds[number][0]
        if here == kind and rng.random() < 0.7:
            return word
    return None


def random_loop(book, rng):
    """A head, a word and two tails with told places; None where there is no loop."""
    head, kind = down(book, (), 3, rng)
    word = random_word(book, kind, rng)
    if word is None:
        return None
    ends = []
    for _ in range(2):
        row, below = down(book, head, 3, rng)
        piece = book.pieces[below]
        ends.append((row[len(head):], rng.choice(list("abc"[:piece.mouth]) + list(range(len(piece.letters))))))
    return head, word, ends


def random_place(book, head, word, rng):
    """A place near the seed, or on the rows of the loop, or beside them."""
    row = (head + word * rng.randrange(6))[:rng.randrange(12)] if rng.random() < 0.6 else ()
    return first_told(book, down(book, row, 2, rng)[0])


def first_told(book, row):
    """A place of the piece at a row, a new one if there is any."""
    return book.place(row, 0 if book.pieces[book.kind_at(row)].letters else "a")


def rounds():
    """Books with three mouth places that change places from round to round."""
    books = []
    for turned in (("b", "c"), ("c", "b")):
        for lengths in ((1, 2, 3), (5, 1, 1), (7, 7, 2), (1, 100, 10 ** 60)):
            ties = [("a", 0, lengths[0]), ("b", 1, lengths[1]), ("c", 2, lengths[2])]
            row = (1, 2, 0) if turned == ("b", "c") else (1, 0, 2)
            books.append(Book("s", {"s": Piece(0, "...", [], [("p", (0, 1, 2))]), "p": Piece(3, "...", ties, [("p", row)])}))
            books.append(Book("s", {"s": Piece(0, "...", [(0, 1, 9), (1, 2, 4)], [("p", (0, 1, 2)), ("p", (0, 2, 1))]),
                                    "p": Piece(3, "...", ties + [(0, 1, 5)], [("p", row), ("p", (0, 1, 2))])}))
    return books


def late(difference=1, start=10 ** 60):
    """A book with two rails, of which the one is longer at each round, the other at the start."""
    return Book("s", {"s": Piece(0, "..", [(0, 1, 10 ** 100)], [("p", (0, 1))]),
                      "p": Piece(2, "..", [("a", 0, start), ("b", 1, start - difference)], [("p", (0, 1)), ("q", (0, 1))]),
                      "q": Piece(2, ".", [("a", 0, 10 ** 100), ("b", 0, 10 ** 100)])})


class FarTest(unittest.TestCase):

    def test_the_example(self):
        book = ladder()
        for one, other in ((FAR, 0), (FAR, 10 ** 299), (7, 7), (FAR, FAR - 1)):
            first, second = Row([((0,), one)]), Row([((0,), other)])
            for side in (0, 1):
                self.assertEqual(far_distance(book, book.place(first, 0), book.place(second, side)), one - other + side)
                self.assertEqual(far_distance(book, book.place(second, side), book.place(first, 0)), one - other + side)

    def test_far_distance_is_the_distance(self):
        apart = 0
        for seed, book in enumerate([hander(), ladder(), rails(), tent(), twigs()] + rounds() + random_books(81, 100)
                                    + bare_books(81, 60)):
            rng = random.Random(seed)
            near = near_web(book, 3, 500)[1]
            for _ in range(15):
                one, other = (book.place(*rng.choice(near)) for _ in range(2))
                length = distance(one, other)
                self.assertEqual(far_distance(book, one, other), length)
                self.assertEqual(far_distance(book, other, one), length)
                apart += length is None
        self.assertGreater(apart, 50)

    def test_rows_of_a_thousand_buds_and_more(self):
        book = hander()
        rng = random.Random(2)
        row = (0,) + (2, 1) * 900
        for _ in range(6):
            one, other = (book.place(row[:rng.randrange(1500)] , 0) for _ in range(2))
            self.assertEqual(far_distance(book, one, other), distance(one, other))

    def test_rows_told_in_several_ways(self):
        for book in rounds()[:6]:
            ways = [Row([((0, 0), FAR // 2)]), Row([((0,), 1), ((0, 0, 0), FAR // 3)]), Row([((0,), FAR)]),
                    Row([((0,) * 40, FAR // 40)]), Row([((0,) * 7, 10)]) + Row([((0,), FAR - 70)])]
            self.assertEqual({row.total() for row in ways}, {FAR})
            goal = book.place(Row([((0,), 10 ** 200)]), 2)
            want = far_distance(book, book.place(ways[0], 1), goal)
            for row in ways:
                place = book.place(row, 1)
                self.assertEqual(far_distance(book, place, goal), want)
                self.assertEqual(far_distance(book, goal, place), want)
                self.assertEqual(far_distance(book, place, book.place(ways[0], 1)), 0)

    def test_lengths_times_a_number(self):
        def book(times):
            return Book("s", {"s": Piece(0, "..", [(0, 1, 3 * times)], [("p", (0, 1))]),
                              "p": Piece(2, "..", [("a", 0, 5 * times), ("b", 1, 2 * times), (0, 1, 7 * times)],
                                         [("p", (1, 0)), ("p", (0, 1))])})
        rows = [Row([((0,), FAR), ((1,), 10 ** 50)]), Row([((0,), FAR - 9), ((1, 0), 10 ** 40)])]
        plain = book(1)
        want = far_distance(plain, plain.place(rows[0], 0), plain.place(rows[1], 1))
        for times in (2, 10 ** 99):
            told = book(times)
            self.assertEqual(far_distance(told, told.place(rows[0], 0), told.place(rows[1], 1)), want * times)

    def test_no_way_and_other_books(self):
        book = Book("s", {"s": Piece(0, "..", [], [("k", (0,)), ("k", (1,))]), "k": Piece(1, ".", [("a", 0, 1)], [("k", (0,))])})
        one, other = Row([((0,), FAR)]), Row([((1,), 1), ((0,), FAR)])
        self.assertIsNone(far_distance(book, book.place(one, 0), book.place(other, 0)))
        self.assertEqual(far_distance(book, book.place(one, 0), book.place((), 0)), FAR)
        strange, again = ladder().place((), 0), book.place((), 0)
        for places in ((strange, again), (again, strange), (strange, strange)):
            with self.assertRaises(OtherBook):
                far_distance(book, *places)
        self.assertEqual(far_distance(other=ladder().place((0,), 0), one=strange, book=ladder()), 1)

    def test_tales_are_the_distances(self):
        told = apart = 0
        books = [hander(), ladder(), rails(), tent(), twigs()] + rounds() \
            + random_books(82, 120) + random_books(83, 60, (1, 50, 1000)) + bare_books(82, 60)
        for seed, book in enumerate(books):
            rng = random.Random(seed)
            for _ in range(6):
                found = random_loop(book, rng)
                if found is None:
                    continue
                head, word, ((tail, end), (second, other)) = found
                loop = Loop(head, word, tail)
                place = random_place(book, head, word, rng)
                tale = tale_to(book, place, loop, end)
                between = tale_between(book, loop, end, second, other)
                self.assertLessEqual(len(tale.early), 220)
                self.assertTrue(all(len(lines) <= 100 for lines in tale.lines + between.lines))
                self.assertTrue(all(rise is None or rise >= 1 for rise in tale.ending()[2]))
                for number in list(range(14)) + [19, 38, 61]:
                    row = head + word * number
                    far, near = book.place(row + tail, end), book.place(row + second, other)
                    self.assertEqual(tale(number), distance(place, far))
                    self.assertEqual(between(number), distance(near, far))
                    told += 1
                    apart += tale(number) is None
                for number in (10 ** 9 + 1, 10 ** 80 + 3, FAR - rng.randrange(9)):
                    row = Row([(head, 1)] if head else []) + Row([(word, number)])
                    far, near = book.place(row + tail, end), book.place(row + second, other)
                    self.assertEqual(tale(number), far_distance(book, place, far))
                    self.assertEqual(between(number), far_distance(book, near, far))
        self.assertGreater(min(told, apart), 300)

    def test_a_longer_head_and_tail_and_other_words(self):
        for seed, book in enumerate([ladder(), twigs()] + rounds() + random_books(84, 60) + bare_books(84, 40)):
            rng = random.Random(seed)
            found = random_loop(book, rng)
            if found is None:
                continue
            head, word, ((tail, end), (second, other)) = found
            place = random_place(book, head, word, rng)
            tale = tale_to(book, place, Loop(head, word, tail), end)
            between = tale_between(book, Loop(head, word, tail), end, second, other)
            times = min(3, 40 // len(word))
            for number in (0, 1, 2):
                longer = Loop(head + word * number, word, tail)
                self.assertTrue(tale_to(book, place, longer, end) == tale.along(1, number))
                self.assertTrue(tale_between(book, longer, end, second, other) == between.along(1, number))
                longer = Loop(head, word, word * number + tail)
                self.assertTrue(tale_to(book, place, longer, end) == tale.along(1, number))
                self.assertTrue(tale_between(book, longer, end, word * number + second, other)
                                == between.along(1, number))
                several = Loop(head, word * times, word * number + tail)
                self.assertTrue(tale_to(book, place, several, end) == tale.along(times, number))
                self.assertTrue(tale_between(book, several, end, word * number + second, other)
                                == between.along(times, number))
            # The word turned about: its first number stands at the end of the head instead.
            for cut in range(1, len(word)):
                turned = Loop(head + word[:cut], word[cut:] + word[:cut], word[cut:] + tail)
                self.assertTrue(tale_to(book, place, turned, end) == tale.along(1, 1))
                self.assertTrue(tale_between(book, turned, end, word[cut:] + second, other) == between.along(1, 1))

    def test_told_by_number_and_by_letter(self):
        book = ladder()
        place = book.place((0,) * 5, 1)
        for letter, number in (("a", 0), ("b", 1)):
            above = tale_to(book, place, Loop((0,), (0,), ()), number)
            self.assertTrue(tale_to(book, place, Loop((0,), (0,), (0,)), letter) == above)
            self.assertEqual([above(n) for n in range(7)], [abs(4 - n) + 1 - number for n in range(7)])
        between = tale_between(book, Loop((0,), (0,), ()), 0, (0, 0), "b")
        self.assertEqual((between(0), between.ending()), (2, (0, 1, (0,))))

    def test_lines_that_change_very_late(self):
        book = late()
        place = book.place((), 0)
        tale = tale_to(book, place, Loop((0,), (0,), (1,)), 0)
        # On rail a from the start, or over the long tie to rail b, which is shorter by 1 each round.
        far = 10 ** 100 - 1
        for number in (0, 7, far - 5, far - 1, far, far + 1, 2 * far):
            rounds_gone = number + 1
            want = 10 ** 100 + min(rounds_gone * 10 ** 60, 10 ** 100 + rounds_gone * (10 ** 60 - 1))
            self.assertEqual(tale(number), want)
            row = Row([((0,), number + 1), ((1,), 1)])
            self.assertEqual(far_distance(book, place, book.place(row, 0)), want)
        self.assertEqual(tale.ending(), (10 ** 100 - 1, 1, (10 ** 60 - 1,)))
        # Between the rails the way leads up, and from a far round on through the piece below.
        between = tale_between(book, Loop((0,), (0,), ()), 0, (), 1)
        change = 10 ** 100 // (2 * 10 ** 60 - 1)
        for number in (0, 9, change - 2, change - 1, change, change + 1, 10 ** 200):
            want = 10 ** 100 + min((number + 1) * (2 * 10 ** 60 - 1), 10 ** 100)
            self.assertEqual(between(number), want)
        self.assertEqual(between.ending(), (change, 1, (0,)))

    def test_rows_of_two_hundred_numbers(self):
        book = ladder()
        loop = Loop((0,), (0,), ())
        tale = tale_to(book, book.place((0,) * 200, 0), loop, 1)
        for number in (0, 100, 198, 199, 200, 201, 215, 10 ** 200):
            self.assertEqual(tale(number), abs(199 - number) + 1)
        self.assertLessEqual(len(tale.early), 220)
        for place in (book.place((0,) * 201, 0), book.place(Row([((0,), 5000)]), 0)):
            with self.assertRaises(TooFar) as caught:
                tale_to(book, place, loop, 1)
            self.assertEqual(caught.exception.number, 200)

    def test_long_words_heads_and_tails(self):
        rng = random.Random(6)
        many = 0
        for book in [hander()] + rounds() + random_books(85, 60, (1, 2, 5, 10 ** 100)):
            kinds = [(number, kind) for number, (kind, _) in enumerate(book.pieces[book.seed].buds)]
            for number, kind in kinds[:1]:
                words = [random_word(book, kind, rng, 40) for _ in range(30)]
                words = [word for word in words if word]
                if not words:
                    continue
                many += 1
                word = max(words, key=len)
                word = word * (40 // len(word))
                head = Row([((number,), 1)] + [(rng.choice(words), 10 ** 40) for _ in range(5)])
                tail, second = (Row([(rng.choice(words), 10 ** 40) for _ in range(5)]) for _ in range(2))
                piece = book.pieces[kind]
                end, other = (rng.choice(list("abc"[:piece.mouth])) for _ in range(2))
                place = first_told(book, ((number,) + words[0] * 200)[:200])
                loop = Loop(head, word, tail)
                tale, between = tale_to(book, place, loop, end), tale_between(book, loop, end, second, other)
                short = (number,) + (words[0] * 200)[:len(words[0]) * (199 // len(words[0]))]
                near = tale_to(book, place, Loop(short, word, tail), end)
                for times in (0, 1, 2, 13, 10 ** 20, FAR):
                    row = head + Row([(word, times)])
                    one, two = book.place(row + tail, end), book.place(row + second, other)
                    self.assertEqual(tale(times), far_distance(book, place, one))
                    self.assertEqual(between(times), far_distance(book, one, two))
                    one = book.place(Row([(short[:1], 1), (words[0], 199 // len(words[0])), (word, times)]) + tail, end)
                    self.assertEqual(near(times), far_distance(book, place, one))
        self.assertGreater(many, 10)

    def error_of(self, call):
        try:
            call()
        except Exception as error:
            return error
        return None

    def test_errors_in_their_order(self):
        book = Book("s", {"s": Piece(0, "..", [], [("p", (0, 1)), ("q", (0,))]),
                          "p": Piece(2, "..", [("a", 0, 1)], [("p", (0, 1)), ("q", (0,))]),
                          "q": Piece(1, ".", [("a", 0, 1)], [("p", ("a", 0))])})
        place, strange, far = book.place((), 0), ladder().place((), 0), book.place((0,) * 201, 0)
        good = Loop((0,), (0,), ())

        def told(error):
            return error.__class__.__name__, list(vars(error).values())
        cases = [
            (strange, Loop((9,), (0,), ()), 0, ("OtherBook", [])),
            (ladder().place((0,) * 201, 0), good, 0, ("OtherBook", [])),
            (far, Loop((9,), (0,), ()), 0, ("TooFar", [200])),
            (place, Loop((0, 1, 0, 9, 9), (3,), ()), 0, ("NoPiece", [(0, 1, 0, 9)])),
            (place, Loop((0, 1), (0, 0, 1, 1, 1), (7,)), None, ("NoPiece", [(0, 1, 0, 0, 1, 1)])),
            (place, Loop((0,), (1,), (9,)), 0, ("NotBack", ["p", "q"])),
            (place, Loop((0,), (0,), (1, 2, 3)), None, ("NoPiece", [(0, 1, 2)])),
            (place, Loop((0,), (0,), (-1,)), None, ("NoPiece", [(0, -1)])),
            (place, good, 2, ("NoPlace", [2])), (place, good, "c", ("NoPlace", ["c"])),
            (place, good, True, ("NoPlace", [True])),
        ]
        for where, loop, end, want in cases:
            self.assertEqual(told(self.error_of(lambda: tale_to(book, where, loop, end))), want)
            if want[0] not in ("OtherBook", "TooFar"):
                self.assertEqual(told(self.error_of(lambda: tale_between(book, loop, end, (9,), None))), want)
        for tail, end, want in (((9,), None, ("NoPiece", [(0, 9)])), ([1, 0, 2], None, ("NoPiece", [(0, 1, 0, 2)])),
                                (Row([((0,), 3), ((3,), 2)]), 0, ("NoPiece", [(0, 0, 0, 0, 3)])),
                                ((1,), "b", ("NoPlace", ["b"])), ((), 7, ("NoPlace", [7]))):
            self.assertEqual(told(self.error_of(lambda: tale_between(book, good, 0, tail, end))), want)
        for value in any_values():
            if value not in ((), []) and not isinstance(value, Row):
                error = self.error_of(lambda: tale_between(book, good, 0, value, 0))
                self.assertIsInstance(error, NoPiece)
                row = error.row
                self.assertTrue(row == value or row[0] == 0)
            if isinstance(value, bool) or value not in (0, 1, "a", "b"):
                for call in (lambda: tale_to(book, place, good, value), lambda: tale_between(book, good, value, (9,), 0),
                             lambda: tale_between(book, good, 0, (), value)):
                    error = self.error_of(call)
                    self.assertIsInstance(error, NoPlace)
                    self.assertIs(error.told, value)

    def test_no_piece_tells_far_beginnings(self):
        book = ladder()
        head = Row([((0,), 10 ** 40), ((1,), 3), ((0,), 5)])
        with self.assertRaises(NoPiece) as caught:
            tale_to(book, book.place((), 0), Loop(head, (0,), ()), 0)
        self.assertTrue(caught.exception.row == Row([((0,), 10 ** 40), ((1,), 1)]))
        with self.assertRaises(NotBack) as caught:
            tale_between(book, Loop((), (0,), ()), 0, (), 0)
        self.assertEqual((caught.exception.kind, caught.exception.other), ("base", "rung"))

    def test_tales_go_on_with_signs(self):
        book = ladder()
        tale = tale_to(book, book.place((), 0), Loop((0,), (0,), ()), 0)
        self.assertIsInstance(tale, Tale)
        self.assertTrue(tale == Tale([], [[(1 + k, 6)] for k in range(6)]))
        self.assertTrue(tale + tale_to(book, book.place((), 1), Loop((0,), (0,), ()), 0)
                        == Tale([], [[(3 + 2 * k, 12)] for k in range(6)]))
        self.assertEqual(tale.within(5).ending(), (5, 1, ()))
        self.assertTrue(tale_to(told=0, loop=Loop((0,), (0,), ()), place=book.place((), 0), book=ladder()) == tale)
        between = tale_between(other=1, tail=[0], told=0, loop=Loop((0,), (0,), ()), book=book)
        self.assertEqual(between.ending(), (0, 1, (0,)))
        self.assertEqual(between(3), 2)
