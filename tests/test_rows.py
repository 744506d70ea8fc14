"""[2], [6], [7], [34], [35]: rows told by stretches, and loops."""

import random
import unittest

from growwebs.errors import BadLoop, BadNumber, BadRow, OutsideRow, TooMany
from growwebs.rows import Loop, Row
from growwebs.stretches import packed, spelled
from tests.values import Spy, any_values

FAR = 10 ** 300


def written(stretches):
    return tuple(number for word, times in stretches for number in list(word) * times)


def random_stretches(rng):
    return [([rng.randrange(2) for _ in range(rng.randint(1, 4))], rng.choice([0, 1, 2, 3, 5, 9]))
            for _ in range(rng.randint(0, 5))]


class RowsTest(unittest.TestCase):

    def bad(self, index, stretches):
        with self.assertRaises(BadRow) as caught:
            Row(stretches)
        self.assertEqual(caught.exception.index, index)

    def outside(self, number, method, *args, **named):
        with self.assertRaises(OutsideRow) as caught:
            method(*args, **named)
        self.assertIs(caught.exception.number, number)

    def test_the_examples(self):
        row = Row([((0, 1), 2), ((2,), 3)])
        self.assertEqual(row.plain(), (0, 1, 0, 1, 2, 2, 2))
        self.assertTrue(Row([((0, 1), FAR), ((0,), 1)]) == Row([((0,), 1), ((1, 0), FAR)]))

    def test_attributes(self):
        stretches = [[[0, 1], 2], ((3,), 0), ((3,), 0), [(2,), FAR]]
        row = Row(stretches)
        self.assertEqual(row.stretches, (((0, 1), 2), ((3,), 0), ((3,), 0), ((2,), FAR)))
        stretches[0][0].append(3)
        stretches.append(5)
        self.assertEqual(row.stretches[0], ((0, 1), 2))
        self.assertEqual(len(row.stretches), 4)
        self.assertEqual((Row().stretches, Row().plain(), Row(()).total()), ((), (), 0))
        self.assertEqual(Row(stretches=[((1,), 1)]).plain(), (1,))

    def test_lists_that_are_none(self):
        for value in any_values():
            if value not in ((), []):
                if not isinstance(value, (list, tuple)):
                    self.bad(-1, value)
                else:
                    self.bad(0, value)
        self.bad(-1, [((0,), 1)] * 21)
        self.bad(-1, [None] * 21)
        self.assertEqual(Row([((0,), 1)] * 20).total(), 20)

    def test_stretches_that_are_none(self):
        good = ((0,), 1)
        for value in any_values():
            self.bad(0, [value])
            self.bad(2, (good, [[1, 2], 0], value, None))
            self.bad(1, [good, (value, 1)])
            if not isinstance(value, int) or isinstance(value, bool) or not 0 <= value <= FAR:
                self.bad(1, [good, ((0,), value)])
            if not isinstance(value, int) or isinstance(value, bool) or not 0 <= value <= 3:
                self.bad(0, [((0, value), 1)])
        for word in ((), [0] * 41, (4,), (-1,), (True,), "0", {0: 1}):
            self.bad(0, [(word, 1)])
        for times in (-1, FAR + 1, False):
            self.bad(0, [((0,), times)])
        self.bad(0, [((0,), 1, 1)])
        self.bad(0, [((0,),)])
        self.assertEqual(Row([([3] * 40, FAR)]).total(), 40 * FAR)

    def test_against_plain_tuples(self):
        rng = random.Random(11)
        for _ in range(300):
            told, others = random_stretches(rng), random_stretches(rng)
            row, other = Row(told), Row(others)
            plain, more = written(told), written(others)
            self.assertEqual(row.plain(), plain)
            self.assertEqual(row.total(), len(plain))
            self.assertEqual([row.bud(index) for index in range(len(plain))], list(plain))
            self.assertEqual(row == other, plain == more)
            same = 0
            while same < min(len(plain), len(more)) and plain[same] == more[same]:
                same += 1
            for form in (other, more, list(more)):
                self.assertEqual(row.before(form), plain < more)
                self.assertEqual(row.common(form), same)
                self.assertEqual((row + form).plain(), plain + more)
            for many in range(len(plain) + 1):
                self.assertEqual(row.beginning(many).plain(), plain[:many])
                self.assertEqual(row.behind(many).plain(), plain[many:])

    def test_other_stretches_of_the_same_row(self):
        told = [((0, 1, 0), 8), ((2,), 3)]
        row = Row(told)
        for others in ([((0, 1, 0, 0, 1, 0), 4), ((2, 2, 2), 1)],
                       [((0,), 1), ((1, 0, 0), 7), ((1,), 1), ((0, 2), 1), ((2,), 2)],
                       [((0, 1, 0), 3), ((1,), 0), ((0, 1, 0), 5), ((3, 3), 0), ((2,), 3), ((0,), 0)],
                       [(written(told)[:13], 1), (written(told)[13:], 1)]):
            other = Row(others)
            self.assertTrue(row == other and other == row)
            self.assertFalse(row != other)
            self.assertFalse(row.before(other) or other.before(row))
            self.assertEqual(row.common(other), 27)
            for index in range(27):
                self.assertEqual(row.bud(index), other.bud(index))
                self.assertEqual(row.beginning(index), other.beginning(index))
                self.assertEqual(row.behind(index), other.behind(index))
            self.assertTrue(row + other == other + row)

    def test_far_rows(self):
        row = Row([((0, 1, 0), FAR), ((2,), 1), ((1, 0), FAR)])
        turned = Row([((0,), 1), ((1, 0, 0), FAR - 1), ((1, 0, 2), 1), ((1,), 1), ((0, 1), FAR - 1), ((0,), 1)])
        total = 5 * FAR + 1
        for told in (row, turned):
            self.assertEqual(told.total(), total)
            self.assertEqual([told.bud(3 * FAR + at) for at in (-3, -2, -1, 0, 1, 2)], [0, 1, 0, 2, 1, 0])
            self.assertEqual((told.bud(0), told.bud(total - 1)), (0, 0))
            self.assertEqual(told.beginning(3 * FAR), Row([((0, 1, 0), FAR)]))
            self.assertEqual(told.behind(3 * FAR + 1), Row([((1, 0), FAR)]))
            self.assertEqual(told.beginning(total), row)
            self.assertEqual(told.behind(0), row)
            self.assertEqual(told.behind(total), Row())
            self.assertEqual(told.behind(total - 4).plain(), (1, 0, 1, 0))
            with self.assertRaises(TooMany) as caught:
                told.plain()
            self.assertEqual(caught.exception.most, 2000)
        self.assertTrue(row == turned)
        longer = Row([((0, 1, 0), FAR), ((2,), 1), ((1, 0), FAR), ((0,), 1)])
        self.assertFalse(row == longer)
        self.assertTrue(row.before(longer))
        self.assertFalse(longer.before(row))
        self.assertEqual((row.common(longer), longer.common(turned)), (total, total))

    def test_far_rows_that_differ_late(self):
        row = Row([((0, 1), FAR)])
        other = Row([((0, 1), FAR - 1), ((0, 2), 1)])
        self.assertEqual((row.common(other), other.common(row)), (2 * FAR - 1, 2 * FAR - 1))
        self.assertTrue(row.before(other))
        self.assertFalse(other.before(row))
        self.assertFalse(row == other)
        shifted = Row([((1, 0), FAR)])
        self.assertEqual(row.common(shifted), 0)
        odd = Row([((0, 1) * 20, FAR // 40), ((0, 1), FAR - FAR // 2)])
        self.assertEqual(odd.common(row), min(odd.total(), row.total()))
        near = Row([((0, 1, 0, 1, 0), FAR)])
        self.assertEqual(row.common(near), 5)
        self.assertEqual(near.common(row), 5)

    def test_sums_at_the_bounds(self):
        row = Row([((0,), FAR)])
        self.assertEqual((row + row).total(), 2 * FAR)
        self.assertEqual((row + row).bud(2 * FAR - 1), 0)
        self.assertTrue(row + row == Row([((0, 0), FAR)]))
        self.assertEqual((row + (1, 2)).behind(FAR - 1).plain(), (0, 1, 2))
        twenty = Row([((at % 4,), 1) for at in range(20)])
        self.assertEqual((twenty + twenty).plain(), tuple(at % 4 for at in range(20)) * 2)

    def test_plain(self):
        row = Row([((0, 1), 1000)])
        self.assertEqual(row.plain(), (0, 1) * 1000)
        self.assertEqual(Row([((0,), 10000)]).plain(most=10000), (0,) * 10000)
        self.assertEqual(Row().plain(most=0), ())
        for told, most in ((Row([((0,), 2001)]), 2000), (row, 1999), (Row([((0,), 1)]), 0)):
            with self.assertRaises(TooMany) as caught:
                told.plain(most=most)
            self.assertEqual(caught.exception.most, most)
        with self.assertRaises(TypeError):
            row.plain(2000)

    def test_outside(self):
        row = Row([((0, 1), 2)])
        for value in any_values() + [5]:
            inside = isinstance(value, int) and not isinstance(value, bool) and value >= 0
            if not (inside and value <= 3):
                self.outside(value, row.bud, value)
                self.outside(value, row.bud, index=value)
            if not (inside and value <= 4):
                self.outside(value, row.beginning, value)
                self.outside(value, row.behind, many=value)
                self.outside(value, row.beginning, many=value)
        self.outside(4, row.bud, 4)
        self.outside(0, Row().bud, 0)
        self.assertEqual((Row().beginning(0), Row().behind(0)), (Row(), Row()))

    def test_equality_with_other_things(self):
        row = Row([((0, 1), 1)])
        for other in any_values() + [(0, 1), [0, 1], (((0, 1), 1),), row.stretches]:
            if not isinstance(other, Row):
                self.assertFalse(row == other)
                self.assertFalse(other == row)
                self.assertTrue(row != other)

    def test_names_of_arguments(self):
        row = Row([((0, 1), 3)])
        self.assertEqual(row.bud(index=1), 1)
        self.assertTrue(row.before(other=(1,)))
        self.assertEqual(row.common(other=[0, 1, 0, 0]), 3)

    def test_arguments_stay_as_they_are(self):
        row, other = Row([((0, 1), 3)]), [0, 1, 1]
        for call in (row.before, row.common, row.__add__):
            call(other)
        self.assertEqual((other, row.stretches), ([0, 1, 1], (((0, 1), 3),)))

    def test_rows_are_not_iterated_over(self):
        with self.assertRaises(TypeError):
            list(Row([((0,), 3)]))
        with self.assertRaises(TypeError):
            {Row(): 1}

    def test_packed_rows(self):
        rng = random.Random(4)
        for _ in range(60):
            word = tuple(rng.randrange(3) for _ in range(rng.choice([1, 3, 7, 40, 50, 90])))
            row = word * rng.choice([1, 2, 30]) + tuple(rng.randrange(3) for _ in range(rng.choice([0, 5, 99])))
            pairs = packed(row)
            self.assertEqual(spelled(pairs), row)
            self.assertTrue(all(1 <= len(told) <= 40 and times > 0 for told, times in pairs))
        self.assertEqual(len(packed((0, 1, 0) * 1000)), 1)


class LoopsTest(unittest.TestCase):

    def bad(self, field, *args, **named):
        with self.assertRaises(BadLoop) as caught:
            Loop(*args, **named)
        self.assertEqual(caught.exception.field, field)

    def test_rows_of_a_loop(self):
        loop = Loop((0, 1), [2, 3], [1])
        self.assertEqual(loop.row_at(0).plain(), (0, 1, 1))
        self.assertEqual(loop.row_at(1).plain(), (0, 1, 2, 3, 1))
        self.assertEqual(loop.row_at(number=3).plain(), (0, 1, 2, 3, 2, 3, 2, 3, 1))
        self.assertIsInstance(loop.row_at(0), Row)
        far = loop.row_at(FAR)
        self.assertEqual((far.total(), far.bud(2 * FAR + 1), far.bud(2 * FAR + 2)), (2 * FAR + 3, 3, 1))

    def test_attributes(self):
        for form in (tuple, list, lambda row: Row([(row, 1)])):
            loop = Loop(form((0, 1)), (2,), form((3,)))
            self.assertTrue(loop.head == Row([((0, 1), 1)]))
            self.assertTrue(loop.tail == Row([((3,), 1)]))
            self.assertEqual(loop.word, (2,))
        loop = Loop(tail=Row([((0,), FAR)]), word=[3] * 40, head=())
        self.assertTrue(loop.head == Row())
        self.assertEqual((loop.word, loop.tail.total()), ((3,) * 40, FAR))
        self.assertEqual(loop.row_at(FAR).total(), 41 * FAR)

    def test_what_is_passed_is_copied(self):
        head, word, tail = [0], [1], [2]
        loop = Loop(head, word, tail)
        for row in (head, word, tail):
            row.append(3)
        self.assertEqual(loop.row_at(1).plain(), (0, 1, 2))

    def test_wrong_arguments(self):
        for value in any_values():
            row = isinstance(value, Row) or (isinstance(value, (list, tuple)) and all(
                isinstance(number, int) and not isinstance(number, bool) for number in value))
            if not row:
                self.bad("head", value, (0,), ())
                self.bad("head", value, Spy(), Spy())
                self.bad("tail", (), (0,), value)
            self.bad("word", (), value, ())
            self.bad("word", head=(), tail=Spy(), word=value)
        for word in ((), [0] * 41, (4,), (-1,), (True,), "0", Row([((0,), 1)])):
            self.bad("word", (), word, None)
        self.bad("head", "0", (), None)
        self.bad("head", (0, True), (0,), ())
        self.bad("tail", (), (0,), [False])

    def test_wrong_numbers(self):
        loop = Loop((), (0,), ())
        for value in any_values() + [FAR + 1]:
            if not isinstance(value, int) or isinstance(value, bool) or not 0 <= value <= FAR:
                with self.assertRaises(BadNumber) as caught:
                    loop.row_at(value)
                self.assertIs(caught.exception.value, value)

    def test_a_loop_is_equal_only_to_itself(self):
        loop = Loop((), (0,), ())
        self.assertTrue(loop == loop)
        self.assertFalse(loop == Loop((), (0,), ()))
