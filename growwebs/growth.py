"""Growth: how the number of places within a distance grows with the distance."""

from growwebs.distances import kinds_on, view_from
from growwebs.leading import all_rows, all_turns, longest_chains
from growwebs.strands import entries_at, joined_parts_of, strand_lines


class Growth:
    """A degree, None if there is none, and rings (row, part, turn) that show it."""

    def __init__(self, degree, rings):
        self.degree = degree
        self.rings = rings


def first_strands(place):
    """The dict of strands that belong to the region of a place, on its row or beside it, with rows."""
    view = view_from(place)
    kinds = kinds_on(view.plan, view.row)
    found = {}
    for depth, kind in enumerate(kinds):
        mouth = view.rows[depth][:view.plan.pieces[kind].mouth]
        told = [(view.row[:depth], kind, part) for part in joined_parts_of(view.plan, kind, mouth)]
        told.extend([(view.row[:depth] + (bud,), below, part)
                     for bud, below, part, _ in entries_at(view, kinds, depth)])
        for row, below, part in told:
            if (below, part) not in found:
                found[(below, part)] = row
    return found


def all_strands(first, rows):
    """The dict of all strands that belong to the region at some row, with short such rows."""
    found = {}
    for strand in first:
        for below in rows[strand]:
            row = first[strand] + rows[strand][below]
            if below not in found or len(row) < len(found[below]):
                found[below] = row
    return found


def two_turns(lines, rows, strand):
    """Two different rows of one length by which a strand leads to itself, or None."""
    begin = (strand, strand, False)
    found = {begin: ((), ())}
    waiting = [begin]
    at = 0
    while at < len(waiting):
        one, other, parted = waiting[at]
        first, second = found[waiting[at]]
        for bud, below in lines[one]:
            for turned, under in lines[other]:
                state = (below, under, parted or bud != turned)
                if state in found or strand not in rows[below] or strand not in rows[under]:
                    continue
                found[state] = (first + (bud,), second + (turned,))
                if state == (strand, strand, True):
                    return found[state]
                waiting.append(state)
        at += 1
    return None


def growth(place):
    """The Growth of the region of a place."""
    lines = strand_lines(place.book.plan)
    rows = all_rows(lines)
    strands = all_strands(first_strands(place), rows)
    turns = all_turns(lines, rows)
    turns = {strand: turns[strand] for strand in turns if strand in strands}
    for strand in turns:
        both = two_turns(lines, rows, strand)
        if both is not None:
            return Growth(None, [(strands[strand], strand[1], turn) for turn in both])
    if not turns:
        return Growth(0, [])
    chains = longest_chains(rows, turns)
    chain = max([chains[strand] for strand in chains], key=len)
    row = strands[chain[0]]
    rings = []
    for at, strand in enumerate(chain):
        if at > 0:
            row = row + rows[chain[at - 1]][strand]
        rings.append((row, strand[1], turns[strand]))
    return Growth(len(chain), rings)
