"""What tales tell: pairs (early, curves) of a tuple of values and six curves.

The curve for a rest k by 6 tells the value at N, N + 6, N + 12 and so on, where N is the least
integer with this rest from len(early) on.
"""

from growwebs.curves import drawn_out, least_of_curves, spans_where, sum_of_curves, value_of
from growwebs.masks import BOTH, NONE, ONE, OTHER, combined, last_member, mask_of, plain_part
from growwebs.nones import is_less, lesser_of, sum_of
from growwebs.spans import parts_of

TURN = 6
PERIODS = (1, 2, 3, 6)


def always(value):
    """What a tale tells whose value is the same at each integer; None or an integer."""
    curve = () if value is None else ((0, value, 0),)
    return ((), (curve,) * TURN)


def first_turn(size, rest):
    """The least integer from size on that has the rest by 6."""
    return size + (rest - size) % TURN


def value_at(told, number):
    """The value at an integer from 0 on."""
    early, curves = told
    if number < len(early):
        return early[number]
    begun = first_turn(len(early), number % TURN)
    return value_of(curves[number % TURN], (number - begun) // TURN)


def drawn(told, step, start):
    """What tells at n the value at step * n + start."""
    early, curves = told
    size = max(0, -((start - len(early)) // step))
    found = []
    for rest in range(TURN):
        number = step * first_turn(size, rest) + start
        begun = first_turn(len(early), number % TURN)
        found.append(drawn_out(curves[number % TURN], step, (number - begun) // TURN))
    return (tuple([early[step * at + start] for at in range(size)]), tuple(found))


def with_early(told, size):
    """The same with at least size early values."""
    early, curves = told
    if size <= len(early):
        return told
    values = tuple([value_at(told, number) for number in range(len(early), size)])
    found = []
    for rest in range(TURN):
        begun = first_turn(len(early), rest)
        found.append(drawn_out(curves[rest], 1, (first_turn(size, rest) - begun) // TURN))
    return (early + values, tuple(found))


def even(told, other):
    """Both with as many early values."""
    size = max(len(told[0]), len(other[0]))
    return with_early(told, size), with_early(other, size)


def summed(told, other):
    """What tells the sums."""
    told, other = even(told, other)
    early = tuple([sum_of(one, two) for one, two in zip(told[0], other[0])])
    return (early, tuple([sum_of_curves(one, two) for one, two in zip(told[1], other[1])]))


def least(told, other):
    """What tells the lesser values."""
    told, other = even(told, other)
    early = tuple([lesser_of(one, two) for one, two in zip(told[0], other[0])])
    return (early, tuple([least_of_curves(one, two) for one, two in zip(told[1], other[1])]))


def is_same(told, other):
    """Whether both tell the same at each integer."""
    told, other = even(told, other)
    return told == other


def early_parts(holds):
    """The parts of the set of the indexes at which a list has True."""
    if not holds:
        return ((0, 1, 0),)
    return (plain_part(0, len(holds), len(holds), mask_of(holds)), (len(holds), 1, 0))


def where(told, other, equal):
    """The parts of the set of all n at which the value is less than, or equals, the other one."""
    told, other = even(told, other)
    size = len(told[0])
    values = list(zip(told[0], other[0]))
    holds = [one == two if equal else is_less(one, two) for one, two in values]
    spans = []
    for rest in range(TURN):
        begun = first_turn(size, rest)
        for first, last in spans_where(told[1][rest], other[1][rest], equal):
            end = None if last is None else begun + TURN * last
            spans.append((rest, begun + TURN * first, end))
    return combined(early_parts(holds), parts_of(TURN, spans), BOTH + ONE + OTHER)


def far_number(told):
    """A multiple of 6 from which on the value rises evenly for each rest."""
    early, curves = told
    lasts = [curve[-1][0] for curve in curves if curve]
    return TURN * (len(early) + max(lasts + [0]) + 2)


def rises_after(told, period):
    """The rise from n to n + period for each rest of a far n by 6; None if it is not even."""
    far = far_number(told)
    rises = []
    for rest in range(TURN):
        values = []
        for number in (far + rest, far + rest + TURN):
            values.append((value_at(told, number), value_at(told, number + period)))
        if [one is None for one, _ in values] != [two is None for _, two in values]:
            return None
        found = [None if one is None else two - one for one, two in values]
        if found[0] != found[1]:
            return None
        rises.append(found[0])
    if rises[period:] + rises[:period] != rises:
        return None
    return rises


def uneven_parts(told, period, rises):
    """The parts of the set of all n that are no part of the ending with these rises."""
    early, curves = told
    added = tuple([sum_of(value, rises[at % TURN]) for at, value in enumerate(early)])
    raised = tuple([sum_of_curves(curve, always(rise)[1][0]) for curve, rise in zip(curves, rises)])
    good = where(drawn(told, 1, period), (added, raised), True)
    silent = where(told, always(None), True)
    never = parts_of(TURN, [(at, 0, None) for at, rise in enumerate(rises) if rise is None])
    astray = combined(silent, never, ONE + OTHER)
    return combined(good, astray, BOTH + OTHER + NONE)


def ending_of(told):
    """The triple (b, c, rises)."""
    for period in PERIODS:
        rises = rises_after(told, period)
        if rises is not None:
            last = last_member(uneven_parts(told, period, rises))
            return (0 if last is None else last + 1, period, tuple(rises[:period]))
    return None
