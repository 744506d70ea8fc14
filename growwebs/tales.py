"""Tales: an integer or None for each integer from 0 on, rising evenly at last."""

from growwebs.checks import is_integer, is_list, is_pair, is_within
from growwebs.curves import curve_of, lines_of
from growwebs.errors import BadNumber, BadTale
from growwebs.telling import TURN, always, drawn, ending_of, is_same, least, summed, value_at, where
from growwebs.times import GREATEST_NUMBER, Parts, Times, check_number

MOST_EARLY = 2000
MOST_LINES = 400
GREATEST_STEP = 10 ** 60
GREATEST_START = (10 ** 60) ** 5


class Curves:
    """What a call worked out: six curves that a Tale takes in the place of lines."""

    def __init__(self, told):
        self.told = told


def is_line(value):
    """Whether the value is a pair (worth, rise)."""
    if not is_pair(value):
        return False
    return all([is_within(number, 0, GREATEST_NUMBER) for number in value])


def are_lines(value):
    """Whether the value is a list of at most 400 lines."""
    if not is_list(value) or len(value) > MOST_LINES:
        return False
    return all([is_line(line) for line in value])


def check_tale(early, lines):
    """Raise BadTale for the first argument of a Tale that is not as told."""
    if not is_list(early) or len(early) > MOST_EARLY:
        raise BadTale("early")
    if not all([value is None or is_within(value, 0, GREATEST_NUMBER) for value in early]):
        raise BadTale("early")
    if not is_list(lines) or len(lines) != TURN or not all([are_lines(row) for row in lines]):
        raise BadTale("lines")


class Tale:
    """Early values, then for each rest by 6 the least of some lines (worth, rise)."""

    def __init__(self, early, lines):
        if isinstance(lines, Curves):
            self.early = early
            self.lines = tuple([lines_of(curve) for curve in lines.told])
            self.told = (self.early, lines.told)
        else:
            check_tale(early, lines)
            self.early = tuple(early)
            self.lines = tuple([tuple([tuple(line) for line in row]) for row in lines])
            self.told = (self.early, tuple([curve_of(row) for row in self.lines]))

    def __call__(self, number):
        if not is_within(number, 0, GREATEST_START):
            raise BadNumber(number)
        return value_at(self.told, number)

    def __add__(self, other):
        if not is_value(other):
            return NotImplemented
        return tale_of(summed(self.told, told_of(other)))

    def __radd__(self, other):
        if not is_value(other):
            return NotImplemented
        return tale_of(summed(told_of(other), self.told))

    def __or__(self, other):
        if not is_value(other):
            return NotImplemented
        return tale_of(least(self.told, told_of(other)))

    def __ror__(self, other):
        if not is_value(other):
            return NotImplemented
        return tale_of(least(told_of(other), self.told))

    def __eq__(self, other):
        return isinstance(other, Tale) and is_same(self.told, other.told)

    def along(self, step, start):
        """The tale whose value at n is the value of this one at step * n + start."""
        if not is_within(step, 1, GREATEST_STEP):
            raise BadNumber(step)
        if not is_within(start, 0, GREATEST_START):
            raise BadNumber(start)
        return tale_of(drawn(self.told, step, start))

    def below(self, other):
        """The Times of all n at which the value is less than that of the other tale."""
        return times_of(where(self.told, other.told, False))

    def meets(self, other):
        """The Times of all n at which the value equals that of the other tale."""
        return times_of(where(self.told, other.told, True))

    def within(self, most):
        """The Times of all n at which the value is an integer that is at most most."""
        check_number(most)
        return times_of(where(self.told, always(most + 1), False))

    def silent(self):
        """The Times of all n at which the value is None."""
        return times_of(where(self.told, always(None), True))

    def ending(self):
        """The triple (b, c, rises) that tells how the tale goes on from b on."""
        return ending_of(self.told)


def is_value(value):
    """Whether a value can be added to a tale: a tale, or an integer for a tale of that alone."""
    return isinstance(value, Tale) or is_integer(value)


def told_of(value):
    """What a tale tells, or an integer that stands for one."""
    if isinstance(value, Tale):
        return value.told
    return always(value)


def tale_of(told):
    """The Tale that tells this."""
    return Tale(told[0], Curves(told[1]))


def times_of(parts):
    """The Times of a set that a tale tells."""
    return Times(TURN, Parts(parts, (TURN,)))
