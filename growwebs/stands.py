"""Stands: what is seen of a strand from a place, told once for all strands that look the same."""

from growwebs.distances import entered
from growwebs.errors import TooMany
from growwebs.lengths import length_tables
from growwebs.pieces import MOUTH
from growwebs.strands import lane_tables, spots_of_part

MOST_STANDS = 100


class Numbering:
    """The stands (kind, part, gaps) that have been met, in order."""

    def __init__(self):
        self.stands = []
        self.numbers = {}


def met(numbering, kind, part, lengths):
    """The pair (shift, number of the stand) for a strand whose places have these lengths."""
    shift = min(lengths)
    stand = (kind, part, tuple([length - shift for length in lengths]))
    if stand not in numbering.numbers:
        if len(numbering.stands) == MOST_STANDS:
            raise TooMany(MOST_STANDS)
        numbering.numbers[stand] = len(numbering.stands)
        numbering.stands.append(stand)
    return shift, numbering.numbers[stand]


def times_of(plan, stand):
    """The times of all places of the piece of a stand, None where there is none."""
    kind, part, gaps = stand
    mouth = [None for _ in range(plan.pieces[kind].mouth)]
    for letter, gap in zip(part, gaps):
        mouth[MOUTH.index(letter)] = gap
    return entered(length_tables(plan)[kind], mouth)


def own_of(plan, stand, times):
    """The pairs (number, time) of the new places of a stand's piece that have a time."""
    mouth = plan.pieces[stand[0]].mouth
    return tuple([(at, time) for at, time in enumerate(times[mouth:]) if time is not None])


def arrows_of(plan, numbering, stand, times):
    """The triples (bud, shift, number of the stand) of the lanes of a stand."""
    piece = plan.pieces[stand[0]]
    arrows = []
    for bud, kind, part in lane_tables(plan)[(stand[0], stand[1])]:
        lengths = [times[spot] for spot in spots_of_part(piece, bud, part)]
        arrows.append((bud,) + met(numbering, kind, part, lengths))
    return tuple(arrows)


def told_stands(plan, numbering):
    """The list of (stand, own, arrows) for all stands that have been met, and all they lead to."""
    told = []
    while len(told) < len(numbering.stands):
        stand = numbering.stands[len(told)]
        times = times_of(plan, stand)
        told.append((stand, own_of(plan, stand, times), arrows_of(plan, numbering, stand, times)))
    return told
