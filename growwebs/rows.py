"""Rows of numbers of buds, told by stretches, and loops."""

from growwebs.checks import is_integers, is_list, is_pair, is_within
from growwebs.errors import BadLoop, BadNumber, BadRow, OutsideRow, TooMany
from growwebs.stretches import LONGEST_WORD, MOST_TIMES, Runs, count_common, count_numbers
from growwebs.stretches import first_numbers, merged, number_at, numbers_behind, packed, spelled

MOST_STRETCHES = 20
GREATEST_BUD = 3
LONGEST_TUPLE = 2000


def is_loop_word(value):
    """Whether the value is a list of 1 to 40 numbers of buds."""
    if not is_list(value) or not 1 <= len(value) <= LONGEST_WORD:
        return False
    return all([is_within(number, 0, GREATEST_BUD) for number in value])


def is_stretch(value):
    """Whether the value is a pair of a word and how many times it stands."""
    return is_pair(value) and is_loop_word(value[0]) and is_within(value[1], 0, MOST_TIMES)


def taken_stretches(value):
    """The tuple of the stretches of a list that a caller passes."""
    if not is_list(value) or len(value) > MOST_STRETCHES:
        raise BadRow(-1)
    for index, stretch in enumerate(value):
        if not is_stretch(stretch):
            raise BadRow(index)
    return tuple([(tuple(word), times) for word, times in value])


class Row:
    """A row of numbers of buds, told by stretches (word, times)."""

    def __init__(self, stretches=()):
        if isinstance(stretches, Runs):
            self.stretches = stretches.pairs
        else:
            self.stretches = taken_stretches(stretches)

    def __add__(self, other):
        if not is_row(other):
            return NotImplemented
        return Row(Runs(merged(self.stretches + stretches_of(other))))

    def __eq__(self, other):
        return isinstance(other, Row) and are_same(self.stretches, other.stretches)

    def total(self):
        """How many numbers the row has."""
        return count_numbers(self.stretches)

    def bud(self, index):
        """The number with this index, from 0."""
        if not is_within(index, 0, self.total() - 1):
            raise OutsideRow(index)
        return number_at(self.stretches, index)

    def plain(self, *, most=2000):
        """The row as a tuple of at most most numbers."""
        if self.total() > most:
            raise TooMany(most)
        return spelled(self.stretches)

    def beginning(self, many):
        """The Row of the first many numbers."""
        if not is_within(many, 0, self.total()):
            raise OutsideRow(many)
        return Row(Runs(first_numbers(self.stretches, many)))

    def behind(self, many):
        """The Row of all but the first many numbers."""
        if not is_within(many, 0, self.total()):
            raise OutsideRow(many)
        return Row(Runs(numbers_behind(self.stretches, many)))

    def before(self, other):
        """Whether this row stands before the other one, as tuples are ordered."""
        others = stretches_of(other)
        same = count_common(self.stretches, others)
        if same == count_numbers(others):
            return False
        if same == self.total():
            return True
        return number_at(self.stretches, same) < number_at(others, same)

    def common(self, other):
        """How many numbers from the first one on are the same in both rows."""
        return count_common(self.stretches, stretches_of(other))


def are_same(pairs, other_pairs):
    """Whether two lists of stretches tell the same row."""
    many = count_numbers(pairs)
    return many == count_numbers(other_pairs) and many == count_common(pairs, other_pairs)


def is_row(value):
    """Whether the value is a row: a Row, or a list or tuple of integers."""
    return isinstance(value, Row) or is_integers(value)


def stretches_of(row):
    """Stretches that tell a row."""
    if isinstance(row, Row):
        return row.stretches
    return packed(tuple(row))


def plain_stretches(row):
    """Stretches that tell a row; one that is written out is one stretch, of any length."""
    if isinstance(row, Row):
        return row.stretches
    return ((tuple(row), 1),)


def count_row(row):
    """How many numbers a row has."""
    if isinstance(row, Row):
        return row.total()
    return len(row)


def written_out(row):
    """A row as a tuple, however long it is."""
    if isinstance(row, Row):
        return spelled(row.stretches)
    return tuple(row)


def first_of_row(row, many):
    """The beginning of a row with so many numbers: a tuple, or a Row of a Row."""
    if isinstance(row, Row):
        return row.beginning(many)
    return tuple(row[:many])


def rest_of_row(row, many):
    """The tuple of all but the first many numbers of a row."""
    if isinstance(row, Row):
        return spelled(numbers_behind(row.stretches, many))
    return tuple(row[many:])


def kept_row(row):
    """A row as attributes hold it: a tuple if it has at most 2,000 numbers, else a Row."""
    if count_row(row) <= LONGEST_TUPLE:
        return written_out(row)
    if isinstance(row, Row):
        return row
    return Row(Runs(packed(tuple(row))))


def taken_row(field, value):
    """The Row of an argument of a Loop."""
    if isinstance(value, Row):
        return value
    if not is_integers(value):
        raise BadLoop(field)
    return Row(Runs(packed(tuple(value))))


class Loop:
    """One row for each integer n from 0 on: head, n times word, tail."""

    def __init__(self, head, word, tail):
        self.head = taken_row("head", head)
        if not is_loop_word(word):
            raise BadLoop("word")
        self.word = tuple(word)
        self.tail = taken_row("tail", tail)

    def row_at(self, number):
        """The Row for this n."""
        if not is_within(number, 0, MOST_TIMES):
            raise BadNumber(number)
        return self.head + Row(Runs(((self.word, number),))) + self.tail
