"""Spans (rest, first, last) for a modulus, and the sets that they tell."""

from math import lcm

from growwebs.masks import ONE, combined, count_below, joined_parts, last_member, least_from
from growwebs.masks import lowered, plain_part, raised, turned_mask

GREATEST_MODULUS = 10000
MOST_SPANS = 400


def turns_of(spans):
    """The ascending list of (n, rest, change): a span with this rest begins or has ended at n."""
    turns = []
    for rest, first, last in spans:
        if last is None:
            turns.append((first, rest, 1))
        elif first <= last:
            turns.append((first, rest, 1))
            turns.append((last + 1, rest, -1))
    return sorted(turns)


def parts_of(modulus, spans):
    """The parts of the set that the spans tell."""
    turns = turns_of(spans)
    starts = sorted(set([0] + [turn[0] for turn in turns]))
    covers = {}
    mask = at = 0
    parts = []
    for index, start in enumerate(starts):
        while at < len(turns) and turns[at][0] == start:
            rest, change = turns[at][1:]
            covers[rest] = covers.get(rest, 0) + change
            bit = 1 << rest
            mask = (mask | bit) if covers[rest] else (mask & ~bit)
            at += 1
        end = starts[index + 1] if index + 1 < len(starts) else None
        parts.append(plain_part(start, end, modulus, turned_mask(modulus, mask, start)))
    return joined_parts(parts)


def members_of(parts):
    """The ascending list of the members of a finite set."""
    found = []
    last = last_member(parts)
    number = -1
    while last is not None and number < last:
        number = least_from(parts, number + 1)
        found.append(number)
    return found


def divisors(number):
    """The divisors of a number, ascending."""
    return [many for many in range(1, number + 1) if number % many == 0]


def span_starts(parts, modulus):
    """The set of the members n for which n - modulus is none."""
    return combined(parts, raised(parts, modulus), ONE)


def tried_moduli(period, moduli):
    """The ascending list of the moduli that could tell a set with this period at last."""
    common = 1
    for modulus in moduli:
        common = lcm(common, modulus)
    multiples = [common]
    if common > GREATEST_MODULUS:
        multiples = list(moduli)
    tried = [period]
    for multiple in multiples:
        tried.extend([many for many in divisors(multiple) if many % period == 0])
    return sorted(set(tried))


def fitting_modulus(parts, moduli):
    """The first modulus by which few spans tell the set, of those that divide the moduli."""
    best = None
    for modulus in tried_moduli(parts[-1][1], moduli):
        starts = span_starts(parts, modulus)
        many = count_below(starts, starts[-1][0])
        if best is None or many < best[0]:
            best = (many, modulus)
        if many <= MOST_SPANS:
            break
    return best[1]


def spans_of(parts, modulus):
    """Spans that tell the set; the modulus is a multiple of the period of the last part."""
    starts = members_of(span_starts(parts, modulus))
    lasts = members_of(combined(parts, lowered(parts, modulus), ONE))
    starts = sorted([(number % modulus, number) for number in starts])
    lasts = sorted([(number % modulus, number) for number in lasts])
    spans = []
    at = 0
    for rest, first in starts:
        # Of one rest, each start but perhaps the greatest one has a last member behind it.
        if at < len(lasts) and lasts[at][0] == rest:
            spans.append((rest, first, lasts[at][1]))
            at += 1
        else:
            spans.append((rest, first, None))
    return tuple(spans)
