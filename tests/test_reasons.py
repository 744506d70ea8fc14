"""[2], [41], [61]: reasons that no way is shorter."""

import random
import unittest

from growwebs.books import Book
from growwebs.distances import distance
from growwebs.errors import NotJoined, OtherBook
from growwebs.inner import Inside
from growwebs.pieces import Piece
from growwebs.reasons import Reason, reason, reason_holds
from tests.values import any_values
from tests.webs import hander, ladder, near_web, nest, rails, random_books, tent, twigs


def triple():
    """A book with a kind with three mouth places whose buds are inside and outside of the rows."""
    return Book("s", {"s": Piece(0, "...", [(0, 1, 3), (1, 2, 3)], [("p", (0, 1, 2))]),
                      "p": Piece(3, "..", [("a", 0, 1), ("b", 1, 1), (0, 1, 5)],
                                 [("p", (0, "c", 1)), ("q", ("b", 0))]),
                      "q": Piece(2, ".", [("a", 0, 1), ("b", 0, 1)])})


def changed(heights, at, by):
    return [height + by if index == at else height for index, height in enumerate(heights)]


class ReasonsTest(unittest.TestCase):

    def test_the_example(self):
        book = ladder()
        one, other = book.place((), 0), book.place((0,), 1)
        self.assertTrue(reason_holds(one, other, Reason(2, {"rung": [[0, 3, 1, 2]]}, {(): [0, 1], (0,): [0, 1, 1, 2]})))
        wrong = Reason(2, {"rung": [[0, 3, 1, 2]]}, {(): [0, 1], (0,): [0, 1, 1, 3]})
        self.assertIs(reason_holds(one, other, wrong), False)
        self.assertFalse(reason_holds(one, other, Reason(3, {"rung": [[0, 3, 1, 2]]}, {(): [0, 1], (0,): [0, 1, 1, 3]})))

    def test_reasons_hold_and_tell_the_distance(self):
        joined = apart = 0
        for seed, book in enumerate([hander(), ladder(), rails(), tent(), twigs(), nest(), triple()]
                                    + random_books(51, 100) + random_books(52, 50, (1, 10 ** 100))):
            rng = random.Random(seed)
            near = near_web(book)[1]
            for _ in range(6):
                one, other = (book.place(*rng.choice(near)) for _ in range(2))
                length = distance(one, other)
                if length is None:
                    apart += 1
                    with self.assertRaises(NotJoined):
                        reason(one, other)
                    continue
                joined += 1
                told = reason(one, other)
                self.assertEqual(told.length, length)
                self.assertIs(reason_holds(one, other, told), True)
                self.assertEqual(set(told.kinds), {kind for kind in book.pieces if book.pieces[kind].mouth > 1})
                rows = {place.row[:depth] for place in (one, other) for depth in range(len(place.row) + 1)}
                self.assertEqual(set(told.rows), rows)
                self.check_changes(book, one, other, told, rng)
        self.assertGreater(min(joined, apart), 100)

    def check_changes(self, book, one, other, told, rng):
        """Reasons with one thing changed do not hold, or do not tell more than the distance."""
        for by in (-1, 1):
            self.assertFalse(reason_holds(one, other, Reason(told.length + by, told.kinds, told.rows)))
        for row in told.rows:
            at = rng.randrange(len(told.rows[row])) if told.rows[row] else None
            rows = dict(told.rows)
            rows[row] = changed(rows[row], at, 10 ** 102)
            if len(rows[row]) > 0 and book.pieces[book.kind_at(row)].ties:
                self.assertFalse(self.tells_more(one, other, Reason(told.length + 10 ** 102, told.kinds, rows)))
            rows.pop(row)
            self.assertFalse(reason_holds(one, other, Reason(told.length, told.kinds, rows)))
            rows[row] = told.rows[row] + [0]
            self.assertFalse(reason_holds(one, other, Reason(told.length, told.kinds, rows)))
        for kind in told.kinds:
            kinds = dict(told.kinds)
            kinds[kind] = [changed(heights, at, 1) for at, heights in enumerate(kinds[kind])]
            self.assertFalse(reason_holds(one, other, Reason(told.length, kinds, told.rows)))
            kinds.pop(kind)
            self.assertFalse(reason_holds(one, other, Reason(told.length, kinds, told.rows)))
        more = dict(told.rows)
        more[(9,)] = [0]
        self.assertFalse(reason_holds(one, other, Reason(told.length, told.kinds, more)))

    def tells_more(self, one, other, told):
        return reason_holds(one, other, told) and told.length > distance(one, other)

    def test_no_reason_shows_more_than_the_distance(self):
        held = 0
        for seed, book in enumerate([ladder(), triple(), tent(), nest()] + random_books(53, 60, (1, 2))):
            rng = random.Random(seed)
            near = near_web(book, 1)[1]
            for _ in range(60):
                one, other = (book.place(*rng.choice(near)) for _ in range(2))
                if distance(one, other) is None:
                    continue
                told = reason(one, other)
                kinds = {kind: [changed(heights, rng.randrange(len(heights)), rng.choice([-1, 0, 1]))
                                for heights in told.kinds[kind]] for kind in told.kinds}
                rows = {row: changed(heights, rng.randrange(len(heights)), rng.choice([-1, 0, 0, 1])) if heights
                        else [] for row, heights in told.rows.items()}
                for length in range(max(0, told.length - 1), told.length + 3):
                    if reason_holds(one, other, Reason(length, kinds, rows)):
                        self.assertLessEqual(length, told.length)
                        held += 1
        self.assertGreater(held, 50)

    def test_heights_cut_off_at_a_number(self):
        book = triple()
        one, other = book.place((), 0), book.place((0, 0), 1)
        told = reason(one, other)
        for most in range(told.length + 3):
            kinds = {kind: [[min(height, most) for height in heights] for heights in told.kinds[kind]]
                     for kind in told.kinds}
            rows = {row: [min(height, most) for height in heights] for row, heights in told.rows.items()}
            length = min(told.length, most)
            self.assertTrue(reason_holds(one, other, Reason(length, kinds, rows)))
            lifted = {row: [height - 7 for height in heights] for row, heights in rows.items()}
            self.assertTrue(reason_holds(one, other, Reason(length, kinds, lifted)))
            turned = {row: [-height for height in heights] for row, heights in rows.items()}
            self.assertTrue(reason_holds(other, one, Reason(length, kinds, turned)))
            self.assertIs(reason_holds(other, one, Reason(length, kinds, rows)), length == 0)

    def test_what_bounds_what(self):
        book = Book("s", {"s": Piece(0, "..", [], [("p", (0, 1))]), "p": Piece(2, ".", [("a", 0, 3), ("b", 0, 4)]),
                          "q": Piece(3, "", [], [("p", ("b", "a"))])})
        one, other = book.place((), 0), book.place((), 1)
        kinds = {"p": [[0, 7, 3]], "q": [[0, 7, 9], [5, 0, 2]]}
        self.assertTrue(reason_holds(one, other, Reason(7, kinds, {(): [0, 7]})))
        self.assertFalse(reason_holds(one, other, Reason(8, kinds, {(): [0, 8]})))
        # The letter of the heights has 0, ties fit, and the bud of q is bounded by p.
        for p, q in (([[0, 8, 3]], kinds["q"]), ([[1, 7, 3]], kinds["q"]), ([[0, 7, 4]], kinds["q"]),
                     (kinds["p"], [[0, 8, 9], [5, 0, 2]]), (kinds["p"], [[0, 7, 9], [8, 0, 2]]),
                     (kinds["p"], [[0, 7, 9], [5, 1, 2]]), (kinds["p"], [[0, 7, 9]]),
                     (kinds["p"], [[0, 7, 9], [5, 0, 2], [1, 1, 0]]), ([[0, 6, 3]], kinds["q"]), ([], kinds["q"])):
            self.assertFalse(reason_holds(one, other, Reason(7, {"p": p, "q": q}, {(): [0, 7]})))
        self.assertTrue(reason_holds(one, other, Reason(7, {"p": ([0, 7, 3],), "q": ((0, -7, 9), (-5, 0, -2))},
                                                        {(): (0, 7)})))
        self.assertFalse(reason_holds(one, other, Reason(7, dict(kinds, s=[]), {(): [0, 7]})))

    def test_a_bud_whose_row_is_in_rows(self):
        book = triple()
        one, other = book.place((), 0), book.place((0,), 0)
        told = reason(one, other)
        # What hangs there is bound by the heights above alone: it has them at its mouth.
        for at in range(3):
            rows = dict(told.rows)
            rows[(0,)] = changed(rows[(0,)], at, 1)
            self.assertFalse(reason_holds(one, other, Reason(told.length, told.kinds, rows)))

    def test_rows_may_be_wider_apart_than_the_bounds(self):
        # p is bound to 2 by its kind; where its row is in rows, the tie of 9 is all that bounds.
        book = Book("s", {"s": Piece(0, "..", [(0, 1, 9)], [("p", (0, 1))]), "p": Piece(2, ".", [("a", 0, 1)])})
        one, other = book.place((), 0), book.place((), 1)
        self.assertTrue(reason_holds(one, other, Reason(9, {"p": [[0, 9, 1]]}, {(): [0, 9]})))
        self.assertFalse(reason_holds(one, other, Reason(9, {"p": [[0, 2, 1]]}, {(): [0, 9]})))
        below = book.place((0,), 0)
        self.assertTrue(reason_holds(below, other, Reason(9, {"p": [[0, 2, 1]]}, {(): [0, 9], (0,): [0, 9, 0]})))

    def test_unjoined_letters_and_places(self):
        book = rails()
        one, other = book.place((0, 0), 0), book.place((0,), 1)
        self.assertTrue(reason_holds(one, other, reason(one, other)))
        self.assertIsNone(Inside(book).least("rail", "a", "b"))
        self.assertEqual(reason(one, other).length, 5)

    def test_attributes_of_any_values(self):
        book = ladder()
        one, other = book.place((), 0), book.place((0,), 1)
        kinds, rows = {"rung": [[0, 3, 1, 2]]}, {(): [0, 1], (0,): [0, 1, 1, 2]}
        for value in any_values():
            self.assertIs(reason_holds(one, other, Reason(value, kinds, rows)), False)
            self.assertIs(reason_holds(one, other, Reason(2, value, rows)), False)
            self.assertIs(reason_holds(one, other, Reason(2, kinds, value)), False)
            self.assertIs(reason_holds(one, other, Reason(2, {"rung": value}, rows)), False)
            self.assertIs(reason_holds(one, other, Reason(2, {"rung": [value]}, rows)), False)
            self.assertIs(reason_holds(one, other, Reason(2, {"rung": [[0, value, 1, 2]]}, rows)),
                          value == 1 and value is not True)
            self.assertIs(reason_holds(one, other, Reason(2, kinds, {(): [0, 1], (0,): value})), False)
            self.assertIs(reason_holds(one, other, Reason(2, kinds, {(): [0, 1], (0,): [0, value, 1, 2]})),
                          value == 1 and value is not True)
        self.assertFalse(reason_holds(one, other, Reason(2, {"rung": [[False, 3, True, 2]]}, rows)))
        self.assertFalse(reason_holds(one, other, Reason(2, kinds, {(): [False, 1], (0,): [0, 1, 1, 2]})))
        self.assertFalse(reason_holds(one, other, Reason(2, kinds, {(): [0, 1], (False,): [0, 1, 1, 2]})))
        self.assertFalse(reason_holds(one, other, Reason(2, kinds, {"": [0, 1], (0,): [0, 1, 1, 2]})))
        same = book.place((), 0)
        self.assertFalse(reason_holds(same, same, Reason(False, kinds, {(): [0, 1]})))
        self.assertTrue(reason_holds(same, same, Reason(0, kinds, {(): [0, 1]})))

    def test_a_reason_copies_and_equals_no_other_one(self):
        kinds, rows = {"rung": [[0, 3, 1, 2]]}, {(): [0, 1], (0,): [0, 1, 1, 2]}
        told = Reason(2, kinds, rows)
        kinds["rung"][0][1] = 99
        rows[()].append(5)
        rows[(1,)] = []
        self.assertEqual((told.kinds, told.rows), ({"rung": [[0, 3, 1, 2]]}, {(): [0, 1], (0,): [0, 1, 1, 2]}))
        self.assertFalse(told == Reason(2, told.kinds, told.rows))
        self.assertTrue(told == told)
        book = ladder()
        first = reason(book.place((), 0), book.place((0,), 1))
        first.kinds["rung"][0][1] = 10 ** 9
        first.rows.clear()
        again = reason(book.place((), 0), book.place((0,), 1))
        self.assertTrue(reason_holds(book.place((), 0), book.place((0,), 1), again))
        self.assertFalse(first == again)
        self.assertEqual(vars(Reason(rows=1, kinds=2, length=3)), {"length": 3, "kinds": 2, "rows": 1})

    def test_far_down(self):
        book = ladder()
        for one, other in (((0,) * 2000, ()), ((0,) * 1000, (0,) * 2000)):
            begin, end = book.place(one, 0), book.place(other, 1)
            told = reason(begin, end)
            self.assertEqual(told.length, distance(begin, end))
            self.assertTrue(reason_holds(begin, end, told))
            told.rows[(0,) * 1500 if other else (0,) * 7][3] += 5
            self.assertFalse(reason_holds(begin, end, told))

    def test_other_books(self):
        one, other = ladder().place((), 0), rails().place((), 1)
        with self.assertRaises(OtherBook):
            reason(one, other)
        with self.assertRaises(OtherBook):
            reason_holds(one, other, None)
        again = ladder().place((0,), 1)
        self.assertTrue(reason_holds(one, again, reason(other=ladder().place((0,), 1), one=ladder().place((), 0))))
        self.assertEqual(reason(rails().place((), 0), rails().place((0,), 1)).length, 3)
        self.assertTrue(reason_holds(reason=reason(one, again), other=again, one=one))
