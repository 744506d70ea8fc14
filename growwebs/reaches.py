"""Reaches: lengths between places that are told by rows of any length from a kind on.

A place is told by stretches and the index of a place in the piece at the end of the row.
"""

from growwebs.climbs import climbed
from growwebs.lengths import length_tables
from growwebs.nones import lesser_of
from growwebs.pieces import spot_of
from growwebs.powers import applied, meeting
from growwebs.stretches import count_common, count_numbers, first_numbers, number_at
from growwebs.stretches import numbers_behind


def mouth_reach(plan, kind, pairs, spot):
    """The lengths, within what grows from a kind, from its mouth places to a place."""
    _, down, below = climbed(plan, kind, pairs)
    mouth = length_tables(plan)[below][:plan.pieces[below].mouth]
    return applied(down, [row[spot] for row in mouth])


def piece_reach(plan, kind, pairs, spot):
    """The pairs (index, length) of the places of a kind by which a way to a place leads.

    The lengths are told within what grows at the bud where the row begins.
    """
    if count_numbers(pairs) == 0:
        return [(spot, 0)]
    piece = plan.pieces[kind]
    below, told = piece.buds[number_at(pairs, 0)]
    lengths = mouth_reach(plan, below, numbers_behind(pairs, 1), spot)
    return [(spot_of(piece, place), length) for place, length in zip(told, lengths)]


def full_length(table, across, one, other):
    """The length between two places of a piece, by the lengths across between its mouth places."""
    column = applied(across, table[other][:len(across)])
    return lesser_of(table[one][other], meeting(table[one][:len(across)], column))


def length_between(plan, kind, one, other):
    """The length, within what grows from a kind, between two places (pairs, index)."""
    same = count_common(one[0], other[0])
    across, _, here = climbed(plan, kind, first_numbers(one[0], same))
    table = length_tables(plan)[here]
    best = None
    for spot, length in piece_reach(plan, here, numbers_behind(one[0], same), one[1]):
        for other_spot, more in piece_reach(plan, here, numbers_behind(other[0], same), other[1]):
            between = full_length(table, across, spot, other_spot)
            if length is not None and more is not None and between is not None:
                best = lesser_of(best, length + between + more)
    return best
