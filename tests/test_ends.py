"""[2], [13], [16], [52]: the ends of regions, and those along one endless row."""

import unittest

from growwebs.books import Book
from growwebs.distances import distance
from growwebs.ends import Ends, ends, ends_along
from growwebs.errors import BadWord, NoPiece, TooMany
from growwebs.growth import growth
from growwebs.inner import Inside
from growwebs.lanes import lanes
from growwebs.pieces import Piece
from growwebs.rows import Row
from tests.values import any_values
from tests.webs import PlainWeb, bare_books, hander, ladder, nest, rails, random_books, strip, tent, twigs

AMOUNTS = {0: "none", 1: "listed", None: "more"}


def rail_book():
    """Three rails side by side from one place; and, at a place by itself, a path."""
    return Book("s", {
        "s": Piece(0, "....", [(0, 1, 1), (0, 2, 1)], [("way", (0, 1, 2)), ("path", (3,))]),
        "way": Piece(3, "...", [("a", 0, 1), ("b", 1, 1), ("c", 2, 1)], [("path", (0,)), ("turn", (2, 0, 1))]),
        "turn": Piece(3, "..", [("a", 0, 1), ("b", 1, 1)], [("turn", (0, "c", 1)), ("gap", (0,))]),
        "path": Piece(1, ".", [("a", 0, 3)], [("gap", ("a",)), ("path", (0,))]),
        "gap": Piece(1, ".", [("a", 0, 1)])})


def winder():
    """Two chains; the one is led on by (0, 1), the other one by (1)."""
    return Book("s", {
        "s": Piece(0, "..", [(0, 1, 1)], [("p", (0,)), ("r", (1,))]),
        "p": Piece(1, ".", [("a", 0, 1)], [("q", (0,))]),
        "q": Piece(1, ".", [("a", 0, 1)], [("end", (0,)), ("p", (0,))]),
        "r": Piece(1, ".", [("a", 0, 1)], [("end", (0,)), ("r", (0,))]),
        "end": Piece(1, ".", [("a", 0, 1)])})


def mixed():
    """A seed whose places have regions of all four amounts."""
    return Book("s", {
        "s": Piece(0, "....", [], [("path", (1,)), ("comb", (2,)), ("tree", (3,))]),
        "path": Piece(1, ".", [("a", 0, 1)], [("path", (0,))]),
        "comb": Piece(1, ".", [("a", 0, 1)], [("comb", (0,)), ("path", (0,))]),
        "tree": Piece(1, ".", [("a", 0, 1)], [("tree", (0,)), ("tree", (0,))])})


def brush(last):
    """Paths that grow from one place: 96 and those of the last bud."""
    pieces = {"s": Piece(0, ".", [], [("c", (0,)), ("a", (0,)), ("a", (0,)), (last, (0,))]),
              "p": Piece(1, ".", [("a", 0, 1)], [("p", (0,))]),
              "d": Piece(1, ".", [("a", 0, 1)], [("b", (0,)), ("p", (0,))])}
    for kind, below in zip("bac", "pba"):
        pieces[kind] = Piece(1, ".", [("a", 0, 1)], [(below, (0,))] * 4)
    return Book("s", pieces)


def is_along(row, head, turn):
    """Whether a row is a beginning of the endless row head, turn, turn, .."""
    return row == (head + turn * (len(row) + 1))[:len(row)]


def far_groups(web, region, shallow):
    """The groups of the region's places with longer rows that are joined when all others are taken away."""
    left = {name for name in region if len(name[0]) > shallow}
    groups = []
    while left:
        waiting = [left.pop()]
        group = set(waiting)
        while waiting:
            for name in web.ties[waiting.pop()]:
                if name in left:
                    left.discard(name)
                    group.add(name)
                    waiting.append(name)
        groups.append(group)
    return groups


def parts_near(book, place, row):
    """The parts at a row that belong to the region of a place."""
    return [part for part in Inside(book).together(book.kind_at(row))
            if distance(place, book.place(row, part[0])) is not None]


def count_along(book, place, head, turn, many=40):
    """How many parts at a row far along lead on for long."""
    row = head
    while len(row) <= len(place.row) + 30:
        row = row + turn
    total = 0
    for part in parts_near(book, place, row):
        level = {(book.kind_at(row), part)}
        for number in turn * many:
            level = {(kind, other) for here in level for bud, kind, other in lanes(book, *here) if bud == number}
        total += bool(level)
    return total


class EndsTest(unittest.TestCase):

    def check_listed(self, told):
        """That a listed answer is told in the shortest way, in order."""
        for head, turn, many in told.rows:
            self.assertTrue(isinstance(head, tuple) and isinstance(turn, tuple) and turn)
            self.assertIn(many, (1, 2, 3))
            if head:
                self.assertNotEqual(head[-1], turn[-1])
            for size in range(1, len(turn)):
                self.assertNotEqual(turn, turn[:size] * (len(turn) // size))
        rows = [(head + turn * 200)[:200] for head, turn, _ in told.rows]
        self.assertEqual(rows, sorted(set(rows)))

    def check_plain(self, book, place, depth, shallow):
        """That the ends are the groups far out of a plain web."""
        told = ends(place)
        web = PlainWeb(book.pieces, book.seed, depth)
        groups = far_groups(web, web.search((place.row, place.number)), shallow)
        far = [group for group in groups if any(len(row) > depth - 12 for row, _ in group)]
        self.assertEqual(len(far), sum(many for _, _, many in told.rows), (vars(told), place.row))
        for head, turn, many in told.rows:
            along = [group for group in far
                     if any(len(row) > depth - 12 and is_along(row, head, turn) for row, _ in group)]
            self.assertEqual(len(along), many)

    def test_the_examples(self):
        self.assertEqual(ends(rails().place((), 0)).rows, [((), (0,), 2)])
        self.assertEqual(ends(ladder().place((0, 0), 1)).rows, [((), (0,), 1)])
        self.assertIsInstance(ends(rails().place((), 0)), Ends)

    def test_amounts(self):
        book = mixed()
        for number, amount in enumerate(["none", "listed", "countable", "more"]):
            told = ends(book.place((), number))
            self.assertEqual(told.amount, amount)
            self.assertEqual(told.rows, [((), (0,), 1)] if amount == "listed" else [])
        deep = Book("s", {"s": Piece(0, ".", [], [("p", (0,))]),
                          "p": Piece(1, ".", [("a", 0, 1)], [("p", (0,)), ("q", (0,))]),
                          "q": Piece(1, ".", [("a", 0, 2)], [("q", (0,)), ("r", (0,))]),
                          "r": Piece(1, ".", [("a", 0, 1)], [("r", (0,))])})
        self.assertEqual(growth(deep.place((), 0)).degree, 3)
        for book, amount in ((deep, "countable"), (tent(), "none"), (nest(), "none"), (ladder(), "listed"), (strip(), "listed"),
                             (twigs(), "more"), (hander(), "more")):
            self.assertEqual(vars(ends(book.place((), 0)))["amount"], amount)

    def test_amounts_agree_with_degrees(self):
        for book in random_books(52, 120) + bare_books(52, 150):
            for place in book.grown(1)[0]:
                told = ends(place)
                self.assertEqual(told.amount, AMOUNTS.get(growth(place).degree, "countable"))
                self.assertTrue(told.rows == [] or told.amount == "listed")
                self.check_listed(told)

    def test_one_two_and_three_ends_along_a_row(self):
        book = rail_book()
        told = ends(book.place((), 1))
        self.check_listed(told)
        self.check_plain(book, book.place((), 1), 28, 9)
        self.assertEqual(told.rows, [((0, 0), (1,), 1), ((0, 1), (0,), 3)])
        self.assertEqual(ends(book.place((0, 1, 0, 0), 1)).rows, told.rows)
        alone = ends(book.place((), 3))
        self.assertEqual((alone.amount, alone.rows), ("listed", [((), (1,), 1)]))

    def test_the_least_head_then_the_least_turn(self):
        book = winder()
        for row, number in (((), 0), ((0, 0, 1, 0), 0), ((1, 1, 1), 0), ((0, 0, 1, 0, 1), 0)):
            told = ends(book.place(row, number))
            self.assertEqual(told.rows, [((0,), (0, 1), 1), ((), (1,), 1)])
            self.check_listed(told)
        self.check_plain(book, book.place((), 0), 28, 9)

    def test_random_webs(self):
        checked = 0
        for book in random_books(16, 300) + bare_books(16, 300):
            places = book.grown(1)[0]
            listed = [place for place in places if ends(place).amount == "listed"]
            try:
                book.grown(28, most=3000)
            except TooMany:
                continue
            for place in listed[:3]:
                self.check_plain(book, place, 28, 9)
                checked += 1
        self.assertGreater(checked, 30)

    def test_a_hundred_entries_and_one_more(self):
        told = ends(brush("b").place((0, 1), 0))
        self.assertEqual(len(told.rows), 100)
        self.assertEqual(sum(many for _, _, many in told.rows), 100)
        self.check_listed(told)
        with self.assertRaises(TooMany) as caught:
            ends(brush("d").place((), 0))
        self.assertEqual(caught.exception.most, 100)

    def test_far_places(self):
        place = rails().place((0,) * 2000, 1)
        self.assertEqual(ends(place).rows, [((), (0,), 2)])
        self.assertEqual(ends_along(place, (0,) * 5, (0,) * 1995), 2)
        further = rails().place((0,) * 2300, 1)
        self.assertEqual((ends(further).rows, ends_along(further, (), (0, 0))), ([((), (0,), 2)], 2))

    def test_what_is_returned_and_then_changed(self):
        place = rails().place((), 0)
        ends(place).rows.clear()
        self.assertEqual(ends(place).rows, [((), (0,), 2)])
        self.assertEqual(vars(ends(place)), vars(ends(place)))


class EndsAlongTest(unittest.TestCase):

    def test_agreement_with_the_list(self):
        for book in [rail_book(), winder(), rails(), ladder(), brush("b")] + random_books(7, 150) + bare_books(7, 150):
            for place in book.grown(1)[0][:4]:
                for head, turn, many in ends(place).rows:
                    self.assertEqual(ends_along(place, head, turn), many)
                    self.assertEqual(ends_along(place, list(head + turn[:1]), list(turn[1:] + turn[:1]) * 2), many)

    def test_rows_along_which_no_end_runs(self):
        book = rail_book()
        self.assertEqual(ends_along(book.place((), 0), (), (1,)), 0)
        self.assertEqual(ends_along(book.place((), 3), (0, 1), (0,)), 0)
        self.assertEqual(ends_along(book.place((1,), 0), (0, 1), (0,)), 0)
        self.assertEqual(ends_along(rails().place((), 0), (), (0, 0, 0)), 2)

    def test_countable_and_more(self):
        book = mixed()
        self.assertEqual(ends_along(book.place((), 2), (1, 0, 0, 1), (0,)), 1)
        self.assertEqual(ends_along(book.place((), 2), (1,), (0,)), 1)
        self.assertEqual(ends_along(book.place((), 3), (2,), (0, 1, 1)), 1)
        self.assertEqual(ends_along(book.place((2, 0, 1, 1), 0), (), (0,)), 0)

    def test_against_lanes_followed_one_by_one(self):
        seen = {}
        for book in [hander(), rail_book(), nest()] + random_books(61, 120) + bare_books(61, 120):
            place = book.grown(1)[0][-1]
            for head in [()] + [row for row in {other.row for other in book.grown(1)[0]} if row]:
                for turn in ((0,), (1,), (0, 1), (1, 0, 0), (2,), (0, 2)):
                    try:
                        many = ends_along(place, head, turn)
                    except NoPiece:
                        continue
                    self.assertEqual(many, count_along(book, place, head, turn))
                    seen[many] = seen.get(many, 0) + 1
        self.assertGreater(min(seen.get(0, 0), seen.get(1, 0), seen.get(2, 0)), 3)

    def test_errors_in_their_order(self):
        book = ladder()
        place = book.place((), 0)
        for value in any_values():
            if not isinstance(value, (list, tuple)) or any(type(entry) is not int for entry in value):
                with self.assertRaises(NoPiece) as caught:
                    ends_along(place, value, value)
                self.assertIs(caught.exception.row, value)
                with self.assertRaises(BadWord) as caught:
                    ends_along(place, [7, -1], value)
                self.assertIs(caught.exception.value, value)
        for empty in ((), []):
            with self.assertRaises(BadWord) as caught:
                ends_along(place, (9,), empty)
            self.assertIs(caught.exception.value, empty)
        with self.assertRaises(NoPiece):
            ends_along(place, Row([((0,), 2)]), (0,))

    def test_the_shortest_beginning_that_is_no_row(self):
        book = winder()
        place = book.place((), 0)
        for head, turn in (((), (0,)), ([0, 0], [1, 0, 0]), ((1, 1), (-1,)), ((5,), (0,)), ((1,), (1, 1, 0))):
            with self.assertRaises(NoPiece) as caught:
                ends_along(place, head, turn)
            told = caught.exception.row
            self.assertIsInstance(told, tuple)
            whole = tuple(head) + tuple(turn) * 9
            self.assertEqual(told, whole[:len(told)])
            with self.assertRaises(NoPiece):
                book.kind_at(told)
            book.kind_at(told[:-1])
        with self.assertRaises(NoPiece) as caught:
            ends_along(place, (1,) * 1000, (1,) * 999 + (2,))
        self.assertEqual(caught.exception.row, (1,) * 1999 + (2,))
        with self.assertRaises(NoPiece) as caught:
            ends_along(place, (1,) * 1001, (1,) * 999 + (2,))
        self.assertEqual(caught.exception.row, Row([((1,), 2000), ((2,), 1)]))

    def test_by_name_in_another_order(self):
        self.assertEqual(ends_along(turn=(0,), place=rails().place((), 0), head=()), 2)


if __name__ == "__main__":
    unittest.main()
