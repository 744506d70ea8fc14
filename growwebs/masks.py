"""Sets of integers from 0 on as parts: tuples (start, period, mask), by ascending starts.

A part tells the set from its start to just before the next part's start, the last one for ever:
A part's mask has period bits. They tell which of the integers from start to start + period - 1 are
members, the lowest bit for start itself, and then go round. The first start is 0. No bit stands
behind the part's end, and no shorter period that divides this one tells the same.
"""

from math import lcm

from growwebs.search import index_at

BOTH = 1
ONE = 2
OTHER = 4
NONE = 8


def count_bits(mask):
    """How many bits of a mask are set."""
    return f"{mask:b}".count("1")


def mask_of(holds):
    """The mask with a bit for each index at which a list has True."""
    mask = 0
    for index, hold in enumerate(holds):
        if hold:
            mask = mask | (1 << index)
    return mask


def turned_mask(period, mask, by):
    """The mask that begins with the bit that stands at by."""
    by = by % period
    return (mask >> by) | ((mask & ((1 << by) - 1)) << (period - by))


def spread_mask(period, mask, size):
    """The first size bits of a mask that is written again and again."""
    while period < size:
        mask = mask | (mask << period)
        period = period * 2
    return mask & ((1 << size) - 1)


def prime_factors(number):
    """The different primes that divide a number, ascending."""
    primes = []
    prime = 2
    while prime * prime <= number:
        if number % prime == 0:
            primes.append(prime)
            while number % prime == 0:
                number = number // prime
        prime += 1
    if number > 1:
        primes.append(number)
    return primes


def least_period(period, mask):
    """The pair (period, mask) of the shortest period that tells the same."""
    full = (1 << period) - 1
    if mask == 0 or mask == full:
        return 1, mask & 1
    for prime in prime_factors(period):
        while period % prime == 0:
            shorter = period // prime
            head = mask & ((1 << shorter) - 1)
            if spread_mask(shorter, head, period) != mask:
                break
            period, mask = shorter, head
    return period, mask


def plain_part(start, end, period, mask):
    """The part from start to just before end (None: for ever), with its shortest period."""
    if end is not None and end - start < period:
        period = end - start
        mask = mask & ((1 << period) - 1)
    period, mask = least_period(period, mask)
    return (start, period, mask)


def follows(part, later):
    """Whether a part goes on as the later part does, so that both are one."""
    start, period, mask = part
    if period != later[1]:
        return False
    return turned_mask(period, mask, later[0] - start) == later[2]


def joined_parts(parts):
    """The same set with neighbouring parts put together where the one goes on as the other."""
    kept = []
    for part in parts:
        if not kept or not follows(kept[-1], part):
            kept.append(part)
    return tuple(kept)


def end_of(parts, at):
    """The integer just behind a part, None for the last one."""
    if at + 1 < len(parts):
        return parts[at + 1][0]
    return None


def chosen(one, other, full, table):
    """The mask of the bits that are in both, in one or the other alone, or in none of two masks."""
    mask = 0
    if table & BOTH:
        mask = mask | (one & other)
    if table & ONE:
        mask = mask | (one & ~other)
    if table & OTHER:
        mask = mask | (other & ~one)
    if table & NONE:
        mask = mask | (full & ~(one | other))
    return mask


def combined_part(start, end, part, other, table):
    """The part from start to end of what the table chooses of two parts."""
    period = lcm(part[1], other[1])
    if period == 1:
        # Most parts of most sets have all integers or none, so this is worth a way of its own.
        return (start, 1, chosen(part[2], other[2], 1, table))
    if end is not None:
        period = min(period, end - start)
    masks = []
    for begun, size, mask in (part, other):
        masks.append(spread_mask(size, turned_mask(size, mask, start - begun), period))
    mask = chosen(masks[0], masks[1], (1 << period) - 1, table)
    return plain_part(start, end, period, mask)


def combined(parts, others, table):
    """The set of all integers that the table chooses of two sets."""
    found = []
    at = other_at = start = 0
    while start is not None:
        ends = [end_of(parts, at), end_of(others, other_at)]
        known = [end for end in ends if end is not None]
        end = min(known) if known else None
        found.append(combined_part(start, end, parts[at], others[other_at], table))
        if end is not None and ends[0] == end:
            at += 1
        if end is not None and ends[1] == end:
            other_at += 1
        start = end
    return joined_parts(found)


def raised(parts, by):
    """The set of all members, each greater by a number from 1 on."""
    return ((0, 1, 0),) + tuple([(start + by, period, mask) for start, period, mask in parts])


def lowered(parts, by):
    """The set of all members from a number on, each less by it."""
    at = index_at(parts, by)
    start, period, mask = parts[at]
    first = plain_part(0, None if at + 1 == len(parts) else parts[at + 1][0] - by,
                       period, turned_mask(period, mask, by - start))
    later = [(start - by, period, mask) for start, period, mask in parts[at + 1:]]
    return (first,) + tuple(later)


def has_member(parts):
    """Whether the set has a member."""
    return any([mask != 0 for _, _, mask in parts])


def is_member(parts, number):
    """Whether an integer from 0 on is a member."""
    start, period, mask = parts[index_at(parts, number)]
    return (mask >> ((number - start) % period)) & 1 == 1


def count_part(part, size):
    """How many of the first size integers of a part are members."""
    _, period, mask = part
    rest = mask & ((1 << (size % period)) - 1)
    return size // period * count_bits(mask) + count_bits(rest)


def count_below(parts, number):
    """How many members are less than a number."""
    total = 0
    for at, part in enumerate(parts):
        if part[0] >= number:
            break
        end = end_of(parts, at)
        last = number if end is None else min(end, number)
        total = total + count_part(part, last - part[0])
    return total


def lowest_bit(mask):
    """The index of the lowest bit of a mask that is not 0."""
    return (mask & -mask).bit_length() - 1


def least_from(parts, number):
    """The least member that is at least number, or None."""
    for at in range(index_at(parts, number), len(parts)):
        begun, period, mask = parts[at]
        start = max(begun, number)
        end = end_of(parts, at)
        mask = turned_mask(period, mask, start - begun)
        if mask:
            found = start + lowest_bit(mask)
            if end is None or found < end:
                return found
    return None


def last_member(parts):
    """The greatest member; None if there is none, or no greatest one."""
    if parts[-1][2]:
        return None
    for at in range(len(parts) - 2, -1, -1):
        start, period, mask = parts[at]
        if mask:
            end = end_of(parts, at)
            turned = turned_mask(period, mask, end - start)
            return end - period + turned.bit_length() - 1
    return None


def bit_at(mask, index):
    """Where the bit stands below which just index bits are set."""
    width = mask.bit_length()
    base = 0
    while width > 1:
        half = width // 2
        low = mask & ((1 << half) - 1)
        many = count_bits(low)
        if index < many:
            mask, width = low, half
        else:
            index = index - many
            mask, width, base = mask >> half, width - half, base + half
    return base


def member_at(parts, index):
    """The member that is greater than just index others, or None."""
    for at, part in enumerate(parts):
        start, period, mask = part
        end = end_of(parts, at)
        if end is not None:
            many = count_part(part, end - start)
            if index >= many:
                index = index - many
                continue
        if mask == 0:
            return None
        around = count_bits(mask)
        return start + index // around * period + bit_at(mask, index % around)
    return None
