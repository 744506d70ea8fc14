"""The web of a depth, written out as names and ties."""

from growwebs.pieces import MOUTH
from growwebs.rows import kept_row


def has_more(plan, depth, most):
    """Whether the web of a depth has more than most places; counted without growing it."""
    level = {plan.seed: 1}
    total = 0
    while level:
        total = total + sum([level[kind] * len(plan.pieces[kind].letters) for kind in level])
        if total > most or depth == 0:
            break
        level = counts_below(plan, level)
        depth = depth - 1
    return total > most


def counts_below(plan, level):
    """How many pieces of each kind there are one deeper than some."""
    below = {}
    for kind in level:
        for bud, _ in plan.pieces[kind].buds:
            below[bud] = below.get(bud, 0) + level[kind]
    return below


def piece_counts(plan):
    """How many pieces of each kind the web has, None for endlessly many."""
    level = {plan.seed: 1}
    counts = {}
    many = len(plan.pieces)
    # Of a kind that comes up as deep as there are kinds there is no end, and it does so soon.
    for depth in range(2 * many):
        for kind in level:
            counts[kind] = None if depth >= many else counts.get(kind, 0) + level[kind]
        level = counts_below(plan, level)
    return counts


def spots_of(piece, mouth, first):
    """The indexes in the web of the places of a piece, from its mouth's and the first new one's."""
    spots = {letter: spot for letter, spot in zip(MOUTH, mouth)}
    for number in range(len(piece.letters)):
        spots[number] = first + number
    return spots


def grow(plan, depth):
    """The names of all places of the web of a depth, ascending, and its ties by their indexes."""
    names = []
    ties = []
    waiting = [((), plan.seed, ())]
    while waiting:
        row, kind, mouth = waiting.pop()
        piece = plan.pieces[kind]
        spots = spots_of(piece, mouth, len(names))
        told = kept_row(row)
        for number in range(len(piece.letters)):
            names.append((told, number))
        for one, other, length in piece.ties:
            one, other = spots[one], spots[other]
            ties.append((min(one, other), max(one, other), length))
        if len(row) == depth:
            continue
        for number in range(len(piece.buds) - 1, -1, -1):
            bud, told = piece.buds[number]
            waiting.append((row + (number,), bud, tuple([spots[place] for place in told])))
    return names, sorted(ties)
