"""[2], [10], [36], [61]: sets of integers that go round at last."""

import random
import unittest

from growwebs.errors import BadNumber, BadTimes
from growwebs.times import Times
from tests.values import Spy, any_values

FAR = 10 ** 300
GREATEST = 10 ** 700
EDGE = 600
ALL = Times(1, [(0, 0, None)])


def random_spans(rng, modulus):
    spans = []
    for _ in range(rng.randint(0, 5)):
        first = rng.randint(0, 40)
        last = rng.choice([None, None, max(0, first + rng.randint(-3, 60))])
        spans.append((rng.randrange(modulus), first, last))
    return spans


def members(modulus, spans):
    return {n for n in range(EDGE) for rest, first, last in spans
            if n % modulus == rest and first <= n and (last is None or n <= last)}


def plain_ending(found):
    for period in range(1, 130):
        begun = EDGE - period
        while begun > 0 and ((begun - 1) in found) == ((begun - 1 + period) in found):
            begun -= 1
        if begun <= 250:
            return begun, period, tuple(sorted({n % period for n in found if n >= begun}))
    return None


class TimesTest(unittest.TestCase):

    def bad(self, field, *args, **named):
        with self.assertRaises(BadTimes) as caught:
            Times(*args, **named)
        self.assertEqual(caught.exception.field, field)

    def agrees(self, times, found):
        """The set is this one of the integers below EDGE; it goes on evenly from there."""
        self.assertEqual({n for n in range(EDGE) if n in times}, found)
        endless = any(n >= EDGE - 130 for n in found)
        self.assertIs(times.endless, endless)
        self.assertIs(bool(times), bool(found))
        self.assertEqual(times.least(), min(found, default=None))
        self.assertEqual(times.last(), None if endless else max(found, default=None))
        self.assertEqual(times.ending(), plain_ending(found))
        ascending = sorted(found)
        for number in (0, 1, 7, 40, 41, 60, 99, 222, 400):
            self.assertEqual(times.up_to(number), sum(n <= number for n in ascending))
            after = min([n for n in ascending if n >= number], default=None)
            self.assertEqual(times.after(number), after)
            if number < len(ascending):
                self.assertEqual(times.nth(number), ascending[number])
            elif not endless:
                self.assertIsNone(times.nth(number))
        if len(times.spans) <= 400:
            self.assertTrue(Times(times.modulus, times.spans) == times)

    def test_against_the_members_one_by_one(self):
        rng = random.Random(5)
        whole = set(range(EDGE))
        for _ in range(120):
            told = []
            for modulus in (rng.choice([1, 2, 3, 4, 5, 6, 8, 12]), rng.choice([1, 2, 3, 4, 6, 12])):
                spans = random_spans(rng, modulus)
                told.append((Times(modulus, spans), members(modulus, spans)))
            (one, ones), (other, others) = told
            self.agrees(one, ones)
            self.agrees(one & other, ones & others)
            self.agrees(one | other, ones | others)
            self.agrees(one - other, ones - others)
            self.agrees(one ^ other, ones ^ others)
            self.agrees(~one, whole - ones)
            self.agrees(~(one | ~other) ^ (other & one), (whole - (ones | (whole - others))) ^ (ones & others))
            self.assertEqual(one == other, ones == others)
            self.assertTrue((one ^ other) == ((one | other) - (one & other)))

    def test_attributes(self):
        spans = [[1, 0, None], (0, 7, 3), [1, 5, 9]]
        times = Times(2, spans)
        self.assertEqual((times.modulus, times.spans), (2, ((1, 0, None), (0, 7, 3), (1, 5, 9))))
        spans[0][0] = 0
        spans.append(5)
        self.assertEqual(times.spans[0], (1, 0, None))
        self.assertNotIn(0, times)
        self.assertEqual(Times(spans=((0, 1, 2),), modulus=1), Times(1, [[0, 1, 2]]))
        self.assertEqual(Times(10000, []).modulus, 10000)

    def test_wrong_moduli(self):
        for value in any_values():
            if not isinstance(value, int) or isinstance(value, bool) or not 1 <= value <= 10000:
                self.bad("modulus", value, [])
                self.bad("modulus", value, Spy())
                self.bad("modulus", spans=None, modulus=value)
        self.bad("modulus", 0, [])
        self.bad("modulus", 10001, [])

    def test_wrong_spans(self):
        for value in any_values():
            if value not in ((), []):
                self.bad("spans", 8, value)
            self.bad("spans", 8, [(0, 0, None), value])
            number = isinstance(value, int) and not isinstance(value, bool) and value >= 0
            if not number:
                self.bad("spans", 8, [(0, value, None)])
                self.bad("spans", 8, [(value, 0, None)])
                if value is not None:
                    self.bad("spans", 8, [(0, 0, value)])
        for span in ((2, 0, None), (-1, 0, None), (0, -1, None), (0, 0, -1), (0, 0), (0, 0, 1, 1), (True, 0, 1),
                     (0, False, 1), (0, 0, True), "000"):
            self.bad("spans", 2, [span])
        self.bad("spans", 1, [(0, 0, 0)] * 401)
        self.assertEqual(len(Times(1, [(0, 0, 0)] * 400).spans), 400)

    def test_any_values_with_in(self):
        for times in (ALL, Times(1, []), Times(2, [(0, 0, 10)])):
            for value in any_values():
                number = isinstance(value, int) and not isinstance(value, bool) and value >= 0
                want = number and (times is ALL or (bool(times) and value <= 10 and value % 2 == 0))
                self.assertIs(value in times, want)

    def test_spans(self):
        times = Times(10, [(3, 4, 13), (5, 5, 5), (7, 17, 16), (8, 9, 17), (1, FAR, None), (9, 0, 9)])
        self.assertEqual([n for n in range(100) if n in times], [5, 9, 13])
        self.assertNotIn(FAR, times)
        self.assertIn(FAR + 1, times)
        self.assertNotIn(FAR - 9, times)

    def test_many_spans_and_great_moduli(self):
        rng = random.Random(1)
        for modulus in (10000, 9973):
            spans = [(rng.randrange(modulus), rng.randrange(10 ** 6), rng.choice([None, rng.randrange(10 ** 7)]))
                     for _ in range(400)]
            times = Times(modulus, spans)
            for rest, first, last in spans[::7]:
                for n in (first, last or 0, first + (rest - first) % modulus, 10 ** 100 + rest, rest,
                          10 ** 100 - 10 ** 100 % modulus + rest):
                    want = any(n % modulus == r and f <= n and (e is None or n <= e) for r, f, e in spans)
                    self.assertIs(n in times, want)
            self.assertEqual(times.nth(times.up_to(10 ** 8) - 1), max(
                n for n in range(10 ** 8 - modulus, 10 ** 8 + 1) if n in times))

    def test_the_same_set_told_otherwise(self):
        even = Times(2, [(0, 10, None)])
        for other in (Times(4, [(0, 10, None), (2, 10, None)]), Times(2, [(0, 9, 30), (0, 31, None), (1, 5, 4)]),
                      Times(6, [(0, 9, None), (2, 9, None), (4, 9, None), (4, 10, 100)]),
                      Times(1, [(0, 10, 10)]) | Times(2, [(0, 11, None)])):
            self.assertTrue(even == other and other == even)
            self.assertFalse(even != other)
            self.assertEqual(other.ending(), (9, 2, (0,)))
            self.assertEqual(other.ending(), even.ending())
        self.assertFalse(even == Times(2, [(0, 8, None)]))
        self.assertFalse(even == Times(2, [(0, 10, FAR)]))
        self.assertTrue(Times(2, [(0, 0, None), (1, 0, None)]) == ALL)
        self.assertTrue(Times(7, [(3, 4, 9)]) == Times(1, []))
        for other in any_values():
            if not isinstance(other, Times):
                self.assertFalse(even == other)
                self.assertFalse(other == even)

    def test_endings(self):
        self.assertEqual(Times(1, []).ending(), (0, 1, ()))
        self.assertEqual(ALL.ending(), (0, 1, (0,)))
        self.assertEqual(Times(1, [(0, 7, FAR)]).ending(), (FAR + 1, 1, ()))
        self.assertEqual(Times(1, [(0, FAR, None)]).ending(), (FAR, 1, (0,)))
        self.assertEqual(Times(6, [(1, 0, None), (4, 0, None)]).ending(), (0, 3, (1,)))
        self.assertEqual(Times(6, [(1, 0, None), (4, 0, None), (5, 0, 5)]).ending(), (6, 3, (1,)))
        self.assertEqual(Times(6, [(1, 10, None), (4, 10, None)]).ending(), (8, 3, (1,)))
        self.assertEqual(Times(10000, [(9999, 0, None)]).ending(), (0, 10000, (9999,)))
        late = Times(4, [(1, 0, FAR), (3, 0, None)])
        self.assertEqual(late.ending(), (FAR - 3 + 1, 4, (3,)))
        both = Times(4, [(1, FAR, None), (3, 0, None)])
        self.assertEqual(both.ending(), (FAR - 4 + 1 + 1, 2, (1,)))

    def test_bool_and_endless(self):
        self.assertFalse(Times(5, []))
        self.assertFalse(Times(5, [(1, 7, 10)]))
        self.assertTrue(Times(5, [(1, 7, 11)]))
        self.assertIs(Times(5, [(1, 7, FAR)]).endless, False)
        self.assertIs(Times(5, [(1, FAR, None)]).endless, True)

    def test_least_last_up_to_after_nth_far_out(self):
        times = Times(7, [(2, FAR, 2 * FAR), (5, 3 * FAR, None)])
        least = FAR + (2 - FAR) % 7
        last = 2 * FAR - (2 * FAR - 2) % 7
        many = (last - least) // 7 + 1
        later = 3 * FAR + (5 - 3 * FAR) % 7
        self.assertEqual((times.least(), times.last()), (least, None))
        self.assertEqual((times - Times(7, [(5, 0, None)])).last(), last)
        self.assertEqual((times.nth(0), times.nth(many - 1), times.nth(many)), (least, last, later))
        self.assertEqual(times.nth(many + FAR), later + 7 * FAR)
        self.assertEqual((times.up_to(least - 1), times.up_to(least), times.up_to(least + 7)), (0, 1, 2))
        self.assertEqual(times.up_to(number=2 * FAR), many)
        self.assertEqual(times.up_to(later + 7 * FAR), many + FAR + 1)
        self.assertEqual((times.after(least), times.after(least + 1)), (least, least + 7))
        self.assertEqual((times.after(last + 1), times.after(number=0)), (later, least))
        self.assertIsNone((times & Times(1, [(0, 0, 2 * FAR)])).after(last + 1))
        self.assertIsNone((times & Times(1, [(0, 0, 2 * FAR)])).nth(index=many))

    def test_bounds_of_numbers(self):
        odd = Times(2, [(1, 0, None)])
        self.assertEqual((odd.up_to(0), odd.after(0), odd.nth(0)), (0, 1, 1))
        self.assertEqual((odd.up_to(GREATEST), odd.after(GREATEST)), (GREATEST // 2, GREATEST + 1))
        self.assertEqual(odd.nth(GREATEST), 2 * GREATEST + 1)
        for value in any_values() + [GREATEST + 1]:
            if not isinstance(value, int) or isinstance(value, bool) or not 0 <= value <= GREATEST:
                for method in (odd.up_to, odd.after, odd.nth):
                    with self.assertRaises(BadNumber) as caught:
                        method(value)
                    self.assertIs(caught.exception.value, value)

    def test_what_is_handed_in_stays(self):
        one, other = Times(4, [(1, 3, None), (2, 0, 50)]), Times(6, [(5, 0, None)])
        before = (one.modulus, one.spans, other.modulus, other.spans)
        for result in (one & other, one | other, one - other, one ^ other, ~one):
            self.assertIsInstance(result, Times)
            self.assertIsNot(result, one)
        one |= other
        self.assertIn(5, one)
        one = Times(4, [(1, 3, None), (2, 0, 50)])
        self.assertEqual((one.modulus, one.spans, other.modulus, other.spans), before)

    def test_spans_of_returned_sets(self):
        for times in (ALL & Times(3, [(1, 0, None)]), ~Times(100, [(7, 0, None)]),
                      Times(10000, [(3, 0, None)]) | Times(1, [(0, 5, None)]),
                      Times(2, [(0, 0, FAR)]) ^ Times(3, [(0, 0, FAR)]), Times(5, []) - ALL):
            self.assertIsInstance(times.spans, tuple)
            self.assertTrue(all(isinstance(span, tuple) for span in times.spans))
            self.assertTrue(Times(times.modulus, times.spans) == times)

    def test_sets_that_few_spans_tell_with_another_modulus(self):
        # Finite sets and almost all integers can be told by the modulus 1 ([61]).
        few = Times(9999, [(5, 0, 9999 * 300)])
        later = few | Times(10000, [(7, 0, None)])
        self.assertEqual(later.up_to(10 ** 7), 300 + 1000)
        self.assertTrue(few & later == few)
        point = Times(9973, [(7, 0, 20)])
        self.assertTrue(point == Times(9999, [(7, 0, 20)]))
        self.assertTrue(point ^ Times(9999, [(7, 0, 20)]) == Times(9998, []))
        self.assertTrue(~Times(9973, []) == ALL)
        self.assertEqual((~point & Times(10000, [(7, 0, None)])).least(), 10007)

    def test_times_are_not_iterated_over(self):
        with self.assertRaises(TypeError):
            list(ALL)
        with self.assertRaises(TypeError):
            {ALL: 1}

    def test_signs_with_other_things(self):
        for value in (1, None, [1], {1}):
            with self.assertRaises(TypeError):
                ALL & value
            with self.assertRaises(TypeError):
                ALL - value
