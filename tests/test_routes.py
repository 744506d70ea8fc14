"""[2], [42], [61]: routes that tell a way without listing it."""

import random
import unittest

from growwebs.books import Book
from growwebs.distances import distance
from growwebs.errors import NotJoined, OtherBook
from growwebs.pieces import Piece
from growwebs.reasons import reason, reason_holds
from growwebs.routes import Route, route, route_length
from growwebs.rows import Row
from tests.values import any_values
from tests.webs import hander, ladder, near_web, nest, rails, random_books, tent, twigs


def deep(value, make):
    if isinstance(value, (list, tuple)):
        return make(deep(entry, make) for entry in value)
    return value


def nested_tuples(value):
    """Whether all steps, and rows in them, are tuples."""
    return all(isinstance(step, tuple) for step in value)


class RoutesTest(unittest.TestCase):

    def test_the_examples(self):
        book = ladder()
        start, side, below = book.place((), 0), book.place((), 1), book.place((0,), 1)
        self.assertEqual(route_length(start, below, Route([((), 0, 1), ((0,), "b", 1)], {})), 2)
        kinds = {("rung", "a", "b"): [("a", 0), (0, 1), (1, "b")]}
        self.assertEqual(route_length(start, side, Route([((), 0, "a", "b")], kinds)), 3)
        self.assertEqual(route_length(start, side, Route([((), 0, 0, "a", "b")], kinds)), 3)

    def test_routes_have_the_length_of_the_distance(self):
        joined = apart = through = 0
        for seed, book in enumerate([hander(), ladder(), rails(), tent(), twigs(), nest()]
                                    + random_books(61, 120) + random_books(62, 60, (1, 10 ** 100))):
            rng = random.Random(seed)
            near = near_web(book)[1]
            for _ in range(8):
                one, other = (book.place(*rng.choice(near)) for _ in range(2))
                length = distance(one, other)
                if length is None:
                    apart += 1
                    with self.assertRaises(NotJoined):
                        route(one, other)
                    continue
                joined += 1
                told = route(one, other)
                self.assertEqual(route_length(one, other, told), length)
                self.assertTrue(nested_tuples(told.steps))
                self.assertTrue(all(isinstance(step[0], tuple) for step in told.steps))
                self.assertTrue(all(nested_tuples(steps) for steps in told.kinds.values()))
                for make in (list, tuple):
                    kinds = {triple: deep(steps, make) for triple, steps in told.kinds.items()}
                    self.assertEqual(route_length(one, other, Route(deep(told.steps, make), kinds)), length)
                through += len(told.kinds) > 0
                self.check_changes(one, other, told, length)
        self.assertGreater(min(joined, apart), 100)
        self.assertGreater(through, 20)

    def check_changes(self, one, other, told, length):
        steps, kinds = told.steps, told.kinds
        back = [step[:-2] + (step[-1], step[-2]) for step in steps[::-1]]
        self.assertEqual(route_length(other, one, Route(back, kinds)), length)
        self.assertEqual(route_length(one, one, Route(steps + back, kinds)), 2 * length)
        if steps:
            self.assertIsNone(route_length(other, one, told))
            self.assertIsNone(route_length(one, other, Route(steps[:-1], kinds)))
            self.assertIsNone(route_length(one, other, Route(steps[1:], kinds)))
            self.assertIsNone(route_length(one, other, Route([steps[0]] + steps, kinds)))
            self.assertIsNone(route_length(one, other, Route(steps + [steps[-1]], kinds)))
        if len(steps) > 1:
            self.assertIsNone(route_length(one, other, Route(steps[::-1], kinds)))
        for triple in kinds:
            left = {key: kinds[key] for key in kinds if key != triple}
            self.assertIsNone(route_length(one, other, Route(steps, left)))
            for wrong in ([], None, kinds[triple][:-1], kinds[triple][1:], kinds[triple] * 2):
                self.assertIsNone(route_length(one, other, Route(steps, dict(kinds, **{}) | {triple: wrong})))
        extra = dict(kinds)
        extra.update({None: 4, ("none", "a", "b"): [7], ("p", "b", "a"): None, 5: [], ("p", "a"): {}})
        self.assertEqual(route_length(one, other, Route(steps, extra)), length)

    def test_no_steps(self):
        book = ladder()
        one, other = book.place((0,), 0), book.place((0,), 1)
        self.assertEqual(route_length(one, ladder().place((0, 0), "a"), Route([], {})), 0)
        self.assertEqual(route_length(one, one, Route((), {})), 0)
        self.assertIsNone(route_length(one, other, Route([], {})))
        self.assertEqual((route(one, one).steps, route_length(one, one, route(one, one))), ([], 0))

    def test_longer_routes(self):
        book = ladder()
        start, side = book.place((), 0), book.place((), 1)
        around = [((), 0, 1), ((), 1, 0)] * 5 + [((), "a", 0)]
        self.assertIsNone(route_length(start, side, Route(around, {})))
        self.assertEqual(route_length(start, side, Route([((), 0, 1), ((), 1, 0)] * 5 + [((), 0, 1)], {})), 11)
        kinds = {("rung", "a", "b"): [("a", 0), (0, "b", "a"), (0, "a", "b"), (0, 1), (1, "b")]}
        self.assertIsNone(route_length(start, side, Route([((), 0, "a", "b")], kinds)))
        kinds = {("rung", "a", "b"): [("a", 0), (0, 1), (1, 0), (0, "a"), ("a", 0), (0, 1), (1, "b")]}
        self.assertEqual(route_length(start, side, Route([((), 0, "a", "b")], kinds)), 7)
        self.assertEqual(route_length(start, start, Route([((), 0, "a", "b"), ((), 0, "b", "a")], kinds)), 14)
        self.assertEqual(route_length(start, side, Route([[[], 0, "a", "b"]], kinds)), 7)

    def test_places_told_at_other_pieces(self):
        book = ladder()
        start, low = book.place((), 0), book.place((0, 0), 0)
        self.assertEqual(route_length(start, low, Route([((0,), "a", 0), ((0, 0), "a", 0)], {})), 2)
        self.assertIsNone(route_length(start, low, Route([((0,), "a", 0), ((0,), "b", 0)], {})))
        self.assertIsNone(route_length(start, low, Route([((0,), "a", 0), ((0, 0), 0, "b")], {})))
        far = book.place((0,) * 5, 0)
        self.assertIsNone(route_length(start, far, Route([((0,), "a", 0), ((0,) * 5, "a", 0)], {})))

    def ring_book(self):
        return Book("s", {"s": Piece(0, "..", [], [("p", (0, 1))]),
                          "p": Piece(2, "..", [("a", 0, 1), (1, "b", 1)], [("q", (0, 1)), ("p", (0, 1))]),
                          "q": Piece(2, ".", [("a", 0, 2), ("b", 0, 2)], [("p", ("a", 0))])})

    def test_triples_that_need_themselves(self):
        book = self.ring_book()
        one, other = book.place((), 0), book.place((), 1)
        steps = [((), 0, "a", "b")]
        plain = {("p", "a", "b"): [("a", 0), (0, "a", "b"), (1, "b")], ("q", "a", "b"): [("a", 0), (0, "b")]}
        self.assertEqual(route_length(one, other, Route(steps, plain)), 6)
        itself = {("p", "a", "b"): [("a", 0), (1, "a", "b"), (1, "b")], ("q", "a", "b"): [("a", 0), (0, "b")]}
        self.assertIsNone(route_length(one, other, Route(steps, itself)))
        ring = {("p", "a", "b"): plain[("p", "a", "b")], ("q", "a", "b"): [(0, "a", "b"), (0, "b")]}
        self.assertIsNone(route_length(one, other, Route(steps, ring)))
        back = {("p", "a", "b"): plain[("p", "a", "b")], ("q", "a", "b"): [("a", 0), (0, "b", "a"), ("a", 0), (0, "b")]}
        self.assertIsNone(route_length(one, other, Route(steps, back)))
        self.assertEqual(route_length(one, other, Route(steps, dict(plain, x=[(0, "a", "b")]))), 6)
        self.assertEqual(route(one, other).kinds, plain)

    def test_needed_twice_and_long(self):
        book = nest()
        one, other = book.place((), 0), book.place((), 1)
        told = route(one, other)
        self.assertEqual((len(told.steps), len(told.kinds)), (1, 5))
        self.assertEqual(route_length(one, other, told), 3 * 4 ** 4)
        self.assertEqual(distance(one, other), 3 * 4 ** 4)

    def test_great_lengths_within_kinds(self):
        book = Book("s", {"s": Piece(0, "..", [], [("p", (0, 1))]),
                          "p": Piece(2, ".", [("a", 0, 10 ** 100), ("b", 0, 10 ** 100 - 1)])})
        one, other = book.place((), 0), book.place((), 1)
        self.assertEqual(route_length(one, other, route(one, other)), 2 * 10 ** 100 - 1)

    def test_steps_of_any_values(self):
        book = ladder()
        one, other = book.place((), 0), book.place((), 1)
        kinds = {("rung", "a", "b"): [("a", 0), (0, 1), (1, "b")]}
        for value in any_values():
            self.assertIsNone(route_length(one, other, Route(value, kinds)))
            self.assertIsNone(route_length(one, other, Route([value], kinds)))
            self.assertIsNone(route_length(one, other, Route([((), 0, value)], kinds))
                              if value != 1 or value is True else None)
            self.assertIsNone(route_length(one, other, Route([((), value, 1)], kinds))
                              if value != 0 or value is False else None)
            if value not in ((), []):
                self.assertIsNone(route_length(one, other, Route([(value, 0, 1)], kinds)))
            self.assertIsNone(route_length(one, other, Route([((), 0, "a", value)], kinds)) if value != "b" else None)
            self.assertIsNone(route_length(one, other, Route([((), 0, value, "b")], kinds)) if value != "a" else None)
            if isinstance(value, bool) or value != 0:
                self.assertIsNone(route_length(one, other, Route([((), value, "a", "b")], kinds)))
                self.assertIsNone(route_length(one, other, Route([((), value, value, "a", "b")], kinds)))
            if not isinstance(value, dict):
                self.assertIsNone(route_length(one, other, Route([((), 0, 1)], value)))
            for wrong in (value, [value], [("a", value), (0, 1), (1, "b")], [(value, 0), (0, 1), (1, "b")]):
                if value not in (0, "a") or isinstance(value, bool):
                    told = Route([((), 0, "a", "b")], {("rung", "a", "b"): wrong})
                    self.assertIsNone(route_length(one, other, told))

    def test_steps_that_are_none(self):
        book = self.ring_book()
        one, other = book.place((), 0), book.place((), 1)
        kinds = {("p", "a", "b"): [("a", 0), (0, "a", "b"), (1, "b")], ("q", "a", "b"): [("a", 0), (0, "b")]}
        self.assertEqual(route_length(one, other, Route([((), 0, "a", "b")], kinds)), 6)
        for step in (((), 0, 1), ((), 0, "a", "a"), ((), 0, "a", "c"), ((), 1, "a", "b"), ((), -1, "a", "b"),
                     ((1,), "a", 0), ((-1,), "a", 0), ((), 0, "a"), ((), 0), ((), 0, "a", "b", "b"), (Row(), 0, "a", "b"),
                     ((), 0, 1, "a", "b"), ((), 0, 0, 0, "a", "b")):
            self.assertIsNone(route_length(one, other, Route([step], kinds)))
        turned = {("p", "b", "a"): kinds[("p", "a", "b")], ("q", "a", "b"): kinds[("q", "a", "b")]}
        self.assertIsNone(route_length(one, other, Route([((), 0, "a", "b")], turned)))

    def test_a_route_copies(self):
        steps, kinds = [[[0], "a", 0]], {("rung", "a", "b"): [["a", 0]]}
        told = Route(steps, kinds)
        steps[0][0].append(9)
        kinds[("rung", "a", "b")][0][0] = "c"
        kinds[1] = 2
        self.assertEqual((told.steps, told.kinds), ([[[0], "a", 0]], {("rung", "a", "b"): [["a", 0]]}))
        self.assertEqual(vars(Route(kinds=None, steps=3)), {"steps": 3, "kinds": None})
        self.assertFalse(Route([], {}) == Route([], {}))
        book = nest()
        one, other = book.place((), 0), book.place((), 1)
        first = route(one, other)
        first.steps.clear()
        first.kinds[("e", "a", "b")].append(1)
        self.assertEqual(route_length(one, other, route(one, other)), distance(one, other))

    def test_far_down_reason_and_route_meet(self):
        book = ladder()
        great = Book("s", {"s": Piece(0, "..", [(0, 1, 10 ** 100)], [("p", (0, 1))]),
                           "p": Piece(2, "..", [("a", 0, 10 ** 99), ("b", 1, 7)], [("p", (0, 1)), ("q", (1, 0))]),
                           "q": Piece(2, ".", [("a", 0, 3), ("b", 0, 10 ** 98)])})
        for told, one, other in ((book, (0,) * 2000, ()), (great, (0,) * 2000, (0,) * 1000), (great, (0,) * 1999, ())):
            begin, end = told.place(one, 0), told.place(other, 1)
            way, why = route(begin, end), reason(begin, end)
            self.assertEqual(route_length(begin, end, way), why.length)
            self.assertTrue(reason_holds(begin, end, why))
            self.assertEqual(why.length, distance(begin, end))
            way.steps[len(way.steps) // 2] = way.steps[0]
            self.assertIsNone(route_length(begin, end, way))

    def test_other_books(self):
        one, other = ladder().place((), 0), rails().place((), 1)
        with self.assertRaises(OtherBook):
            route(one, other)
        with self.assertRaises(OtherBook):
            route_length(one, other, None)
        again = ladder().place((0,), 1)
        told = route(other=again, one=one)
        self.assertEqual(route_length(route=told, other=again, one=one), 2)
