"""[2], [8], [9], [10], [37]: tales."""

import random
import unittest

from growwebs.errors import BadNumber, BadTale
from growwebs.tales import Tale
from growwebs.times import Times
from tests.values import Spy, any_values

FAR = 10 ** 300
GREATEST = 10 ** 700
EDGE = 500
ALL = Times(1, [(0, 0, None)])
NOTHING = Times(1, [])


def random_tale(rng):
    great = rng.choice([5, 30, 200])
    early = [rng.choice([None, rng.randrange(great)]) for _ in range(rng.choice([0, 0, 1, 3, 6, 7, 10]))]
    lines = [[(rng.randrange(great), rng.randrange(9)) for _ in range(rng.choice([0, 1, 1, 2, 3, 4]))]
             for _ in range(6)]
    if rng.random() < 0.3:
        lines = [lines[1]] * 6
    return early, lines


def value_of(early, lines, number):
    if number < len(early):
        return early[number]
    begun = len(early)
    while begun % 6 != number % 6:
        begun += 1
    return min([worth + rise * ((number - begun) // 6) for worth, rise in lines[number % 6]], default=None)


def add(one, other):
    return None if one is None or other is None else one + other


def less(one, other):
    return one is not None and (other is None or one < other)


def lesser(one, other):
    return one if less(one, other) else other


def plain_ending(values):
    for period in (1, 2, 3, 6):
        rises = [None] * period
        for n in range(EDGE - 2 * period, EDGE - period):
            if (values[n] is None) != (values[n + period] is None):
                break
            rises[n % period] = None if values[n] is None else values[n + period] - values[n]
        begun = EDGE - period
        while begun > 0:
            one, other, rise = values[begun - 1], values[begun - 1 + period], rises[(begun - 1) % period]
            even = one is other is None if rise is None else one is not None and other == one + rise
            if not even:
                break
            begun -= 1
        if begun < EDGE - 100:
            return begun, period, tuple(rises)
    return None


def line(worth, rise):
    """The tale of worth + rise * n."""
    return Tale((), [[(worth + rise * rest, 6 * rise)] for rest in range(6)])


class TalesTest(unittest.TestCase):

    def bad(self, field, *args, **named):
        with self.assertRaises(BadTale) as caught:
            Tale(*args, **named)
        self.assertEqual(caught.exception.field, field)

    def agrees(self, tale, values):
        self.assertEqual([tale(number) for number in range(len(values))], values)
        ending = tale.ending()
        if len(values) == EDGE and ending[0] < EDGE - 150:
            self.assertEqual(ending, plain_ending(values))
        if all(len(row) <= 400 for row in tale.lines):
            self.assertTrue(Tale(tale.early, tale.lines) == tale)

    def test_against_the_values_one_by_one(self):
        rng = random.Random(7)
        for _ in range(120):
            told, more = random_tale(rng), random_tale(rng)
            tale, other = Tale(*told), Tale(*more)
            values = [value_of(*told, number) for number in range(EDGE)]
            others = [value_of(*more, number) for number in range(EDGE)]
            self.agrees(tale, values)
            self.agrees(tale + other, [add(*pair) for pair in zip(values, others)])
            self.agrees(tale | other, [lesser(*pair) for pair in zip(values, others)])
            self.agrees(tale + 7, [add(value, 7) for value in values])
            self.agrees(7 + tale, [add(value, 7) for value in values])
            self.agrees(tale | 40, [lesser(value, 40) for value in values])
            self.agrees(40 | tale, [lesser(value, 40) for value in values])
            self.assertEqual(tale == other, values == others)
            step, start = rng.choice([1, 2, 3, 5, 6, 7, 12]), rng.choice([0, 1, 5, 9, 30])
            self.agrees(tale.along(step, start), [value_of(*told, step * n + start) for n in range(80)])
            both = (tale + other | tale.along(2, 1)).along(3, 2)
            self.agrees(both, [lesser(add(values[n], others[n]), value_of(*told, 2 * n + 1))
                               for n in range(2, EDGE, 3)])
            self.compare(tale, other, values, others)

    def compare(self, tale, other, values, others):
        below, meets = tale.below(other), tale.meets(other)
        silent = tale.silent()
        within = {most: tale.within(most) for most in (0, 13, 60)}
        for n in range(EDGE):
            self.assertIs(n in below, less(values[n], others[n]))
            self.assertIs(n in meets, values[n] == others[n])
            self.assertIs(n in silent, values[n] is None)
            for most, times in within.items():
                self.assertIs(n in times, values[n] is not None and values[n] <= most)
        self.assertTrue((below | meets | other.below(tale)) == ALL)
        self.assertTrue((below & meets | meets & other.below(tale) | below & other.below(tale)) == NOTHING)
        self.assertTrue(tale.meets(tale) == ALL)

    def test_attributes(self):
        early, lines = [3, None], [[[1, 2], (3, 4)], (), [], [(5, 6)], [], []]
        tale = Tale(early, lines)
        self.assertEqual(tale.early, (3, None))
        self.assertEqual(tale.lines, (((1, 2), (3, 4)), (), (), ((5, 6),), (), ()))
        early.append(7)
        lines[0][0][0] = 0
        lines[1] = [(0, 0)]
        self.assertEqual((tale.early, tale.lines[0][0], tale(6)), ((3, None), (1, 2), 1))
        self.assertIsNone(tale(7))
        named = Tale(lines=(((1, 2), (3, 4)), [], [], [[5, 6]], [], []), early=(3, None))
        self.assertTrue(named == tale)

    def test_what_a_tale_tells(self):
        lines = [[(rest, 100)] for rest in range(6)]
        tale = Tale([50, None, 52, 53], lines)
        # N is 6, 7, 8, 9, 4, 5 for the rests 0 to 5.
        self.assertEqual([tale(n) for n in range(12)], [50, None, 52, 53, 4, 5, 0, 1, 2, 3, 104, 105])
        self.assertEqual(tale(number=16), 204)
        self.assertEqual((FAR % 6, tale(FAR)), (4, 4 + 100 * ((FAR - 4) // 6)))

    def test_wrong_early(self):
        for value in any_values():
            if not isinstance(value, (list, tuple)):
                self.bad("early", value, [[]] * 6)
                self.bad("early", value, Spy())
            number = value is None or (isinstance(value, int) and not isinstance(value, bool) and value >= 0)
            if not number:
                self.bad("early", [0, value], [[]] * 6)
                self.bad("early", [None, value], None)
        for value in (-1, GREATEST + 1, True, "0", (1,)):
            self.bad("early", (value,), [[]] * 6)
        self.bad("early", [0] * 2001, [[]] * 6)
        self.assertEqual(len(Tale([GREATEST] * 2000, [[]] * 6).early), 2000)

    def test_wrong_lines(self):
        for value in any_values():
            self.bad("lines", [], value)
            self.bad("lines", lines=value, early=())
            self.bad("lines", [], [[(0, 0)], [value], [], [], [], []])
            if value not in ((), []):
                self.bad("lines", [], [[]] * 5 + [value])
            if not isinstance(value, int) or isinstance(value, bool) or not 0 <= value <= GREATEST:
                self.bad("lines", [], [[]] * 5 + [[(0, 0), (value, 0)]])
                self.bad("lines", [], [[]] * 5 + [[(0, value)]])
        for pair in ((0,), (0, 0, 0), (-1, 0), (0, -1), (GREATEST + 1, 0), (0, GREATEST + 1), (None, 0),
                     (True, 0), (0, False), "00", {0: 0, 1: 1}):
            self.bad("lines", [], [[pair]] + [[]] * 5)
        self.bad("lines", [], [[]] * 5)
        self.bad("lines", [], [[]] * 7)
        self.bad("lines", [], [[(0, 0)] * 401] + [[]] * 5)
        self.assertEqual(Tale([], [[(0, 0)] * 400] * 6)(5), 0)

    def test_wrong_numbers(self):
        tale = line(1, 1)
        for value in any_values() + [FAR + 1]:
            number = isinstance(value, int) and not isinstance(value, bool)
            for wrong, method, args in (
                    (not number or not 0 <= value <= FAR, tale, (value,)),
                    (not number or not 1 <= value <= 10 ** 60, tale.along, (value, 0)),
                    (not number or not 1 <= value <= 10 ** 60, tale.along, (value, None)),
                    (not number or not 0 <= value <= FAR, tale.along, (1, value)),
                    (not number or not 0 <= value <= GREATEST, tale.within, (value,))):
                if wrong:
                    with self.assertRaises(BadNumber) as caught:
                        method(*args)
                    self.assertIs(caught.exception.value, value)
        for value, args in ((0, (0, 0)), (10 ** 60 + 1, (10 ** 60 + 1, 0)), (-1, (1, -1))):
            with self.assertRaises(BadNumber) as caught:
                tale.along(*args)
            self.assertEqual(caught.exception.value, value)
        with self.assertRaises(BadNumber):
            tale.within(GREATEST + 1)
        self.assertEqual(tale.along(start=FAR, step=10 ** 60)(FAR), 1 + FAR + 10 ** 360)
        self.assertTrue(tale.within(most=GREATEST) == Times(1, [(0, 0, GREATEST - 1)]))

    def test_equality(self):
        lines = [[(4, 6), (9, 2)] for _ in range(6)]
        tale = Tale([1, None], lines)
        for other in (Tale([1, None], [[(9, 2), (4, 6), (4, 6), (100, 6), (50, 60)] for _ in range(6)]),
                      Tale([1, None] + [4] * 6, [[(10, 6), (11, 2)] for _ in range(6)]),
                      # The line (6, 4) meets the least values at 1 and 2 and is less nowhere.
                      Tale([1, None], [[(4, 6), (9, 2), (6, 4)] for _ in range(6)])):
            self.assertEqual([other(n) for n in range(40)], [tale(n) for n in range(40)])
            self.assertTrue(tale == other and other == tale)
            self.assertFalse(tale != other)
            self.assertEqual(tale.ending(), other.ending())
        for at in range(6):
            changed = [list(row) for row in lines]
            changed[at] = [(4, 6), (8, 3)]
            self.assertFalse(Tale([1, None], changed) == tale)
        self.assertFalse(Tale([1, 0], lines) == tale)
        self.assertFalse(Tale([1], lines) == tale)
        for other in any_values():
            if not isinstance(other, Tale):
                self.assertFalse(tale == other)
                self.assertFalse(other == tale)

    def test_tales_that_differ_at_one_number(self):
        rows = [[(0, 5), (8, 2)] for _ in range(6)]
        tale = Tale((), rows)
        for at in range(5):
            less_there = tale(6 * at) - 1 if at else None
            values = [tale(n) for n in range(36)]
            values[6 * at] = less_there
            other = Tale(values, [[(tale(36 + rest), 2)] for rest in range(6)])
            self.assertFalse(tale == other)
            self.assertTrue((tale.meets(other) == ~Times(1, [(0, 6 * at, 6 * at)])))
        self.assertTrue(tale == Tale([tale(n) for n in range(36)], [[(tale(36 + k), 2)] for k in range(6)]))

    def test_great_numbers(self):
        rng = random.Random(3)
        rows = [[(rng.randrange(GREATEST), rng.randrange(GREATEST)) for _ in range(400)] for _ in range(6)]
        early = [rng.randrange(GREATEST) for _ in range(2000)]
        tale = Tale(early, rows)
        for number in (0, 1999, 2000, 2005, 3000, FAR - 1, FAR):
            want = value_of(early, rows, number) if number < 3001 else min(
                worth + rise * ((number - (2000 + (number - 2000) % 6)) // 6) for worth, rise in rows[number % 6])
            self.assertEqual(tale(number), want)
            self.assertEqual((tale + tale)(number), 2 * want)
            self.assertEqual((tale | tale)(number), want)
        self.assertEqual((tale + GREATEST)(5), early[5] + GREATEST)

    def test_all_numbers_at_which_lines_cross(self):
        rng = random.Random(12)
        told, more = [(early, [[(rng.randrange(10 ** 7), rng.randrange(1, 10 ** 5)) for _ in range(12)]
                               for _ in range(6)]) for early in ([1, 2, 3], [])]
        tale, other = Tale(*told), Tale(*more)
        total, least, along = tale + other, tale | other, tale.along(5, 2)
        crossings = {0, 10 ** 30}
        for rest in range(6):
            lines = told[1][rest] + more[1][rest]
            for index, (worth, rise) in enumerate(lines):
                crossings.update([6 * ((worth - more_worth) // (more_rise - rise)) for more_worth, more_rise
                                  in lines[index + 1:] if more_rise != rise])
        for crossing in crossings:
            for number in range(max(0, crossing - 9), max(0, crossing + 15)):
                value, others = value_of(*told, number), value_of(*more, number)
                self.assertEqual(tale(number), value)
                self.assertEqual(total(number), value + others)
                self.assertEqual(least(number), min(value, others))
                if number % 5 == 2:
                    self.assertEqual(along((number - 2) // 5), value)

    def test_sums_with_none(self):
        holes = Tale([None, 1], [[], [(1, 1)], [(2, 2)], [], [(0, 0)], []])
        full = line(0, 3)
        for total in (holes + full, full + holes):
            self.assertEqual([total(n) for n in range(8)], [None, 4, 8, None, 12, None, None, 22])
        for least in (holes | full, full | holes):
            self.assertEqual([least(n) for n in range(8)], [0, 1, 2, 9, 0, 15, 18, 1])
        self.assertEqual([(holes + 5)(n) for n in range(6)], [None, 6, 7, None, 5, None])
        self.assertEqual([(1 | holes)(n) for n in range(6)], [1, 1, 1, 1, 0, 1])

    def test_what_is_handed_in_stays(self):
        tale, other = Tale([1, None], [[(1, 2), (0, 5)]] * 6), line(3, 1)
        before = (tale.early, tale.lines, other.early, other.lines)
        for result in (tale + other, tale | other, 1 + tale, tale | 2, tale.along(1, 0)):
            self.assertIsInstance(result, Tale)
            self.assertIsNot(result, tale)
        kept = tale
        kept += other
        kept |= 1
        tale.below(other), tale.meets(other), tale.silent(), tale.ending()
        self.assertEqual((tale.early, tale.lines, other.early, other.lines), before)

    def test_along(self):
        told = ([7, None, 9], [[(10 * rest, 3), (10 * rest + 4, 1)] for rest in range(6)])
        tale = Tale(*told)
        nested = tale.along(2, 1).along(3, 2).along(5, 0)
        for n in range(100):
            self.assertEqual(nested(n), tale(2 * (3 * (5 * n) + 2) + 1))
        self.assertTrue(tale.along(1, 0) == tale)
        self.assertTrue(tale.along(2, 3).along(3, 1) == tale.along(6, 5))
        far = tale.along(10 ** 60, FAR).along(10 ** 60 - 1, FAR - 7)
        for n in (0, 1, 7, FAR):
            number = 10 ** 60 * ((10 ** 60 - 1) * n + FAR - 7) + FAR
            self.assertEqual(far(n), value_of(*told, number))

    def test_endings(self):
        self.assertEqual((line(5, 3) | line(1000, 2)).ending(), (995, 1, (2,)))
        mixed = Tale((), [[(rest if rest % 2 == 0 else 10 * rest, 6 if rest % 2 == 0 else 60)] for rest in range(6)])
        self.assertEqual(mixed.ending(), (0, 2, (2, 20)))
        self.assertEqual(Tale([], [[]] * 6).ending(), (0, 1, (None,)))
        self.assertEqual(Tale([None, 4, None], [[]] * 6).ending(), (2, 1, (None,)))
        self.assertEqual(Tale([3], [[(3, 0)]] * 6).ending(), (0, 1, (0,)))
        threes = Tale([], [[(rest % 3 * rest, 6 * (rest % 3))] for rest in range(6)])
        self.assertEqual(threes.ending(), (0, 3, (0, 3, 6)))
        sixes = Tale([], [[(0, rest)] for rest in range(6)])
        self.assertEqual(sixes.ending(), (0, 6, (0, 1, 2, 3, 4, 5)))
        self.assertEqual(Tale([], [[(0, 4)], []] * 3).ending(), (0, 6, (4, None, 4, None, 4, None)))
        self.assertEqual(Tale([], [[(rest, 6)] if rest % 2 else [] for rest in range(6)]).ending(),
                         (0, 2, (None, 2)))
        self.assertEqual(Tale([], [[(7, 0)], [], []] * 2).ending(), (0, 3, (0, None, None)))
        # Equal rises, but values that do not follow evenly: the period is 6, not 1.
        self.assertEqual(Tale([], [[(5, 6)]] * 6).ending(), (0, 6, (6,) * 6))

    def test_endings_that_come_late(self):
        for worth in (10 ** 9, FAR, GREATEST - 100):
            tale = line(0, 3) | line(worth, 2)
            self.assertEqual(tale.ending(), (worth, 1, (2,)))
            early = Tale([1] * 5, [[(0, 3), (worth, 2)]] * 6)
            begun, period, rises = early.ending()
            self.assertEqual((period, rises), (6, (2,) * 6))
            # From t = worth on the second line is least; t belongs to the rests 5, 0, 1, .. in turn.
            self.assertEqual(begun, 5 + 6 * worth)
        moved = Tale([None] * 10 + [3], [[(rest, 6)] for rest in range(6)])
        told = Tale([moved(n) for n in range(50)], [[(moved(50 + (rest - 50) % 6), 6)] for rest in range(6)])
        self.assertTrue(moved == told)
        self.assertEqual(moved.ending(), told.ending())

    def test_one_number_out_of_order(self):
        values = list(range(100))
        values[40] = 41
        tale = Tale(values, [[(100 + (rest - 100) % 6, 6)] for rest in range(6)])
        self.assertEqual(tale.ending(), (41, 1, (1,)))
        values[40] = None
        tale = Tale(values, [[(100 + (rest - 100) % 6, 6)] for rest in range(6)])
        self.assertEqual(tale.ending(), (41, 1, (1,)))

    def test_where_lines_cross(self):
        for meet in (3, 10 ** 20, FAR):
            tale, other = line(meet, 2), line(0, 3)
            self.assertTrue(other.below(tale) == Times(1, [(0, 0, meet - 1)]))
            self.assertTrue(tale.meets(other) == Times(1, [(0, meet, meet)]))
            self.assertTrue(tale.below(other) == Times(1, [(0, meet + 1, None)]))
            between = line(2 * meet + 1, 2)
            self.assertTrue(between.meets(line(0, 4)) == NOTHING)
            self.assertTrue(between.below(line(0, 4)) == Times(1, [(0, meet + 1, None)]))
            self.assertTrue(line(0, 4).below(other=between) == Times(1, [(0, 0, meet)]))
        self.assertTrue(line(3, 2).below(line(4, 2)) == ALL)
        self.assertTrue(line(4, 2).below(line(3, 2)) == NOTHING)
        self.assertTrue(line(4, 2).meets(line(3, 2)) == NOTHING)

    def test_none_in_comparisons(self):
        never, some = Tale([], [[]] * 6), Tale([None, 1], [[(0, 1)], []] * 3)
        gaps = Times(2, [(1, 3, None)]) | Times(1, [(0, 0, 0)])
        self.assertTrue(some.silent() == gaps)
        self.assertTrue(never.silent() == ALL)
        self.assertTrue(line(0, 1).silent() == NOTHING)
        self.assertTrue(never.meets(other=some) == gaps)
        self.assertTrue(some.below(never) == ~gaps)
        self.assertTrue(never.below(some) == NOTHING)
        self.assertTrue(never.within(GREATEST) == NOTHING)

    def test_within_bounds_that_are_met_exactly(self):
        tale = line(7, 5)
        for n in (0, 1, 100, FAR):
            self.assertTrue(tale.within(7 + 5 * n) == Times(1, [(0, 0, n)]))
            self.assertTrue(tale.within(6 + 5 * n) == Times(1, [(0, 0, n - 1)] if n else []))
        flat = Tale([9, 3], [[(4, 0)]] * 6)
        self.assertTrue(flat.within(4) == ~Times(1, [(0, 0, 0)]))
        self.assertTrue(flat.within(3) == Times(1, [(0, 1, 1)]))
        self.assertTrue(flat.within(0) == NOTHING)

    def test_tales_are_not_iterated_over(self):
        with self.assertRaises(TypeError):
            list(line(0, 1))
        with self.assertRaises(TypeError):
            line(0, 1) + "a"
        with self.assertRaises(TypeError):
            None | line(0, 1)
