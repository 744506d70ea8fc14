"""Scouts: the shortest ways to a goal from all places of any pieces of the web."""

from growwebs.lengths import best_stretch, joined_stretch, pass_tables
from growwebs.pieces import hanging_at, spot_of

# Rows are long, so not all that has been looked at is kept.
MOST_KNOWN = 5000


class Scout:
    """Looks at pieces, further and further down; found has the stretches on the patch.

    For the row of each piece that it has looked at it knows the kind, the names of the places of
    the piece and the stretches from them to the goal.
    """

    def __init__(self, patch, found):
        self.patch = patch
        self.found = found
        names = [((), number) for number in range(len(patch.spots[0]))]
        values = [found[spot] for spot in patch.spots[0]]
        self.known = {(): (0, patch.plan.seed, names, values)}


def entered_stretches(passes, mouth):
    """The stretches at all places of a piece that is entered at its mouth places with these."""
    many = len(mouth)
    values = list(mouth)
    for spot in range(many, len(passes[0])):
        best = None
        for at in range(many):
            if mouth[at] is not None and passes[at][spot] is not None:
                best = best_stretch(best, joined_stretch(mouth[at], passes[at][spot]))
        values.append(best)
    return values


def look_below(scout, row, number):
    """What the scout knows of the piece at a bud of a piece that it knows."""
    patch = scout.patch
    above, kind, names, values = scout.known[row]
    piece = patch.plan.pieces[kind]
    below, told = piece.buds[number]
    spots = [spot_of(piece, place) for place in told]
    new = [(row + (number,), at) for at in range(len(patch.plan.pieces[below].letters))]
    at = patch.hung.get((above, number))
    if at is not None:
        lengths = [scout.found[spot] for spot in patch.spots[at]]
    else:
        lengths = entered_stretches(pass_tables(patch.plan)[below], [values[spot] for spot in spots])
    return (at, below, [names[spot] for spot in spots] + new, lengths)


def looked_at(scout, row):
    """The tuple (kind, names, stretches) of the piece at a row of the web."""
    if len(scout.known) > MOST_KNOWN:
        scout.known = {(): scout.known[()]}
    depth = len(row)
    while row[:depth] not in scout.known:
        depth = depth - 1
    while depth < len(row):
        scout.known[row[:depth + 1]] = look_below(scout, row[:depth], row[depth])
        depth = depth + 1
    return scout.known[row][1:]


def stretch_at(scout, row, number):
    """The stretch from a new place to the goal."""
    kind, _, values = looked_at(scout, row)
    return values[spot_of(scout.patch.plan.pieces[kind], number)]


def steps_at(scout, row, number):
    """The ascending pairs (name, how many ways) of the places that are next on shortest ways."""
    found = []
    waiting = [(row, number)]
    while waiting:
        row, told = waiting.pop()
        kind, names, values = looked_at(scout, row)
        piece = scout.patch.plan.pieces[kind]
        goal = values[spot_of(piece, told)][0]
        for one, other, length in piece.ties:
            if told == one or told == other:
                end = spot_of(piece, other if told == one else one)
                if values[end] is not None and values[end][0] == goal - length:
                    found.append((names[end], values[end][1]))
        for bud, _, letter in hanging_at(piece, told):
            waiting.append((row + (bud,), letter))
    return sorted(found)
