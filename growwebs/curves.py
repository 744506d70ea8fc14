"""The least of some lines (worth, rise) at the integers t from 0 on, as a curve.

A curve is a tuple of bends (at, worth, rise), ascending in at, with rises that become less: from
t = at on, up to the next bend, the value is worth + rise * (t - at). The first at is 0. So lines
that tell the same at all integers have the same curve. The curve of no lines is (): it tells None.
"""

from growwebs.search import index_at


def least_lines(lines):
    """The lines that are least somewhere, as (first t, worth, rise), ascending in t."""
    kept = []
    for negative, worth in sorted([(-rise, worth) for worth, rise in lines]):
        rise = -negative
        if kept and kept[-1][2] == rise:
            continue
        start = 0
        while kept:
            _, last_worth, last_rise = kept[-1]
            # The first t at which this line, which rises less, is not greater than the last one.
            start = max(0, -((last_worth - worth) // (last_rise - rise)))
            if start > kept[-1][0]:
                break
            kept.pop()
            start = 0
        kept.append((start, worth, rise))
    return kept


def curve_of(lines):
    """The curve of the least of all lines (worth, rise)."""
    kept = least_lines(lines)
    bends = []
    for index, (start, worth, rise) in enumerate(kept):
        found = [(start, worth + rise * start, rise)]
        if index + 1 < len(kept):
            end, next_worth, next_rise = kept[index + 1]
            value = worth + rise * (end - 1)
            # Between the last t of a line and the first one of the next there is a rise between.
            step = (end - 1, value, next_worth + next_rise * end - value)
            found = found + [step] if end - 1 > start else [step]
        for bend in found:
            if not bends or bends[-1][2] != bend[2]:
                bends.append(bend)
    return tuple(bends)


def lines_of(curve):
    """Lines (worth, rise) of which the curve is the least."""
    return tuple([(worth - rise * at, rise) for at, worth, rise in curve])


def value_of(curve, number):
    """The value of a curve at an integer from 0 on."""
    if not curve:
        return None
    at, worth, rise = curve[index_at(curve, number)]
    return worth + rise * (number - at)


def drawn_out(curve, step, start):
    """The curve whose value at t is that of a curve at step * t + start."""
    lines = [(worth + rise * start, rise * step) for worth, rise in lines_of(curve)]
    return curve_of(lines)


def bends_of_both(curve, other):
    """The list of (at, worth, rise, other worth, other rise) for all bends of two curves."""
    found = []
    for at in sorted(set([bend[0] for bend in curve] + [bend[0] for bend in other])):
        rise, other_rise = curve[index_at(curve, at)][2], other[index_at(other, at)][2]
        found.append((at, value_of(curve, at), rise, value_of(other, at), other_rise))
    return found


def sum_of_curves(curve, other):
    """The curve of the sums; None where one of them is None."""
    if not curve or not other:
        return ()
    both = bends_of_both(curve, other)
    return tuple([(at, one + two, rise + more) for at, one, rise, two, more in both])


def least_of_curves(curve, other):
    """The curve of the lesser values."""
    return curve_of(lines_of(curve) + lines_of(other))


def below_zero(worth, rise):
    """The integers t at which worth + rise * t is less than 0, from 0 on, as (first, last)."""
    if rise > 0:
        return (0, (-worth - 1) // rise)
    if rise < 0:
        return (max(0, worth // -rise + 1), None)
    return (0, None) if worth < 0 else (0, -1)


def at_zero(worth, rise):
    """The integers t at which worth + rise * t is 0, from 0 on, as (first, last)."""
    if rise == 0:
        return (0, None) if worth == 0 else (0, -1)
    if worth % rise:
        return (0, -1)
    return (-worth // rise, -worth // rise)


def spans_where(curve, other, equal):
    """The list of (first, last) of all t at which a curve is less than, or equals, the other one."""
    if not curve or not other:
        holds = (not curve and not other) if equal else (not other and len(curve) > 0)
        return [(0, None)] if holds else []
    both = bends_of_both(curve, other)
    spans = []
    for index, (at, worth, rise, other_worth, other_rise) in enumerate(both):
        most = both[index + 1][0] - 1 - at if index + 1 < len(both) else None
        difference = (worth - other_worth, rise - other_rise)
        first, last = at_zero(*difference) if equal else below_zero(*difference)
        if last is None or (most is not None and last > most):
            last = most
        if first >= 0 and (last is None or first <= last):
            spans.append((at + first, None if last is None else at + last))
    return spans
