"""Distances of places with rows of any length, and tales of distances along loops."""

from growwebs.books import check_book
from growwebs.climbs import climbed
from growwebs.distances import kinds_on, view_from
from growwebs.errors import TooFar
from growwebs.nones import lesser_of
from growwebs.powers import applied, idle, meeting, told_rounds
from growwebs.reaches import length_between
from growwebs.rounds import checked_end, checked_round, lengths_beside, reaches_along
from growwebs.rounds import rounds_on_row, seen_end
from growwebs.rows import count_row, plain_stretches
from growwebs.stretches import count_numbers, merged
from growwebs.tales import tale_of
from growwebs.telling import always, least, summed
from growwebs.walks import walk

FURTHEST = 200
# Of the shortest ways between two places below, some lead at most so many rounds up, or to the head:
# among three mouth places there are nine pairs, and none is come through twice.
MOST_ROUNDS = 10


def far_distance(book, one, other):
    """The least length of the ways between two places of the book, None if there is none."""
    check_book(book, one)
    check_book(book, other)
    told = []
    for place in (one, other):
        mouth = book.plan.pieces[walk(book.plan, place.row)[0]].mouth
        told.append((plain_stretches(place.row), mouth + place.number))
    return length_between(book.plan, book.plan.seed, told[0], told[1])


def tale_to(book, place, loop, told):
    """The tale of the distances from the place to the told places along a loop."""
    check_book(book, place)
    if count_row(place.row) > FURTHEST:
        raise TooFar(FURTHEST)
    plan = book.plan
    around = checked_round(plan, loop)
    end = checked_end(plan, loop, loop.tail, told)
    view = view_from(place)
    kinds = kinds_on(plan, view.row)
    many = rounds_on_row(view.row, around)
    early = []
    if many > 0:
        reaches = reaches_along(plan, end, len(view.row) + 1)
        first = count_numbers(around.head)
        for number in range(many):
            depth = first + number * len(around.word)
            early.append(seen_end(view, kinds, depth, end, reaches))
    # From here on the place lies beside the rounds: each way comes in by the mouth of the first.
    begun = lengths_beside(view, kinds, merged(around.head + ((around.word, many),)))
    return tale_of(told_rounds(early, around.down, begun, end.lengths))


def tale_below(plan, around, one, other):
    """What tells, for each n, the least length between two ends by ways that stay below the head."""
    values = []
    best = length_between(plan, around.kind, (one.pairs, one.spot), (other.pairs, other.spot))
    begun, ended = one.lengths, other.lengths
    for _ in range(MOST_ROUNDS):
        values.append(best)
        best = lesser_of(best, meeting(begun, applied(around.across, ended)))
        begun, ended = applied(around.down, begun), applied(around.down, ended)
    return (tuple(values), always(best)[1])


def tales_up(around, end):
    """What tells the lengths from an end, n rounds up, to each mouth place at the head."""
    table = around.down
    return [told_rounds([], table, row, end.lengths) for row in idle(len(table))]


def tale_between(book, loop, told, tail, other):
    """The tale of the distances between two ends that are n rounds of the loop below its head."""
    plan = book.plan
    around = checked_round(plan, loop)
    ends = [checked_end(plan, loop, loop.tail, told), checked_end(plan, loop, tail, other)]
    best = tale_below(plan, around, ends[0], ends[1])
    outer = climbed(plan, plan.seed, around.head)[0]
    ups = [tales_up(around, end) for end in ends]
    for at, one in enumerate(ups[0]):
        for to, two in enumerate(ups[1]):
            if outer[at][to] is not None:
                best = least(best, summed(summed(one, always(outer[at][to])), two))
    return tale_of(best)
