"""Sets of integers from 0 on that go round at last."""

from growwebs.checks import is_integer, is_list, is_within
from growwebs.errors import BadNumber, BadTimes
from growwebs.masks import BOTH, NONE, ONE, OTHER, combined, count_below, has_member, is_member
from growwebs.masks import last_member, least_from, lowered, member_at
from growwebs.spans import GREATEST_MODULUS, MOST_SPANS, fitting_modulus, parts_of, spans_of

GREATEST_NUMBER = (10 ** 50) ** 14


class Parts:
    """A set that a call worked out: a Times takes it and finds spans that tell it."""

    def __init__(self, told, moduli):
        self.told = told
        self.moduli = moduli


def is_span(value, modulus):
    """Whether the value is a span for the modulus."""
    if not is_list(value) or len(value) != 3:
        return False
    rest, first, last = value
    if not is_within(rest, 0, modulus - 1) or not is_integer(first) or first < 0:
        return False
    return last is None or (is_integer(last) and last >= 0)


def check_times(modulus, spans):
    """Raise BadTimes for the first argument of a Times that is not as told."""
    if not is_within(modulus, 1, GREATEST_MODULUS):
        raise BadTimes("modulus")
    if not is_list(spans) or len(spans) > MOST_SPANS:
        raise BadTimes("spans")
    if not all([is_span(span, modulus) for span in spans]):
        raise BadTimes("spans")


def check_number(value):
    """Raise BadNumber for a value that is no integer from 0 to 10 ** 700."""
    if not is_within(value, 0, GREATEST_NUMBER):
        raise BadNumber(value)


class Times:
    """The set of integers that a modulus and spans (rest, first, last) tell."""

    def __init__(self, modulus, spans):
        if isinstance(spans, Parts):
            self.parts = spans.told
            self.modulus = fitting_modulus(self.parts, spans.moduli)
            self.spans = spans_of(self.parts, self.modulus)
        else:
            check_times(modulus, spans)
            self.modulus = modulus
            self.spans = tuple([tuple(span) for span in spans])
            self.parts = parts_of(modulus, self.spans)

    def __contains__(self, value):
        return is_integer(value) and value >= 0 and is_member(self.parts, value)

    def __and__(self, other):
        if not isinstance(other, Times):
            return NotImplemented
        return chosen_times(self, other, BOTH)

    def __or__(self, other):
        if not isinstance(other, Times):
            return NotImplemented
        return chosen_times(self, other, BOTH + ONE + OTHER)

    def __sub__(self, other):
        if not isinstance(other, Times):
            return NotImplemented
        return chosen_times(self, other, ONE)

    def __xor__(self, other):
        if not isinstance(other, Times):
            return NotImplemented
        return chosen_times(self, other, ONE + OTHER)

    def __invert__(self):
        return chosen_times(self, self, NONE)

    def __eq__(self, other):
        if not isinstance(other, Times):
            return False
        return not has_member(combined(self.parts, other.parts, ONE + OTHER))

    def __bool__(self):
        return bool(has_member(self.parts))

    @property
    def endless(self):
        """Whether the set has endlessly many members."""
        return self.parts[-1][2] != 0

    def least(self):
        """The least member, None if there is none."""
        return least_from(self.parts, 0)

    def last(self):
        """The greatest member, None if there is none or no greatest one."""
        return last_member(self.parts)

    def up_to(self, number):
        """How many members are at most number."""
        check_number(number)
        return count_below(self.parts, number + 1)

    def after(self, number):
        """The least member that is at least number, or None."""
        check_number(number)
        return least_from(self.parts, number)

    def nth(self, index):
        """The member that is greater than just index others, or None."""
        check_number(index)
        return member_at(self.parts, index)

    def ending(self):
        """The triple (b, c, rests): from b on the set goes round with the period c."""
        start, period, mask = self.parts[-1]
        unlike = last_member(combined(self.parts, lowered(self.parts, period), ONE + OTHER))
        begun = 0 if unlike is None else unlike + 1
        rests = [(start + index) % period for index in range(period) if (mask >> index) & 1]
        return (begun, period, tuple(sorted(rests)))


def chosen_times(one, other, table):
    """The Times of what the table chooses of two Times."""
    moduli = (one.modulus, other.modulus)
    return Times(1, Parts(combined(one.parts, other.parts, table), moduli))
