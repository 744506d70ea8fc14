"""The lengths of ways inside what grows from the kinds of a book.

The places of a piece are told here by their indexes: the mouth letters first, then the new ones.
A stretch is a triple (least length, how many ways have it, fewest ties of one of them), None where
there is no way. A link (index, index, stretch, step) of a piece is a tie, with the step (place,
place), or the ways within a bud between two of its places, with the step (bud, letter, letter).
"""

from heapq import heappop, heappush

from growwebs.pieces import MOUTH, places_of, spot_of


def links_of_ties(piece):
    """The links of the ties of a piece."""
    links = []
    for one, other, length in piece.ties:
        links.append((spot_of(piece, one), spot_of(piece, other), (length, 1, 1), (one, other)))
    return links


def links_of_bud(piece, number, stretches):
    """The links of a bud of a piece, given the stretches of all kinds."""
    kind, row = piece.buds[number]
    links = []
    for one, other in stretches[kind]:
        stretch = stretches[kind][(one, other)]
        if stretch is not None:
            ends = (spot_of(piece, row[one]), spot_of(piece, row[other]))
            links.append(ends + (stretch, (number, MOUTH[one], MOUTH[other])))
    return links


def links_of(piece, stretches):
    """All links of a piece."""
    links = links_of_ties(piece)
    for number in range(len(piece.buds)):
        links.extend(links_of_bud(piece, number, stretches))
    return links


def lines_by_place(many, links):
    """For each of many places the list of pairs (other end, stretch) of its links."""
    lines = [[] for _ in range(many)]
    for one, other, stretch, _ in links:
        lines[one].append((other, stretch))
        lines[other].append((one, stretch))
    return lines


def joined_stretch(one, other):
    """The stretch of the ways that go through both, one behind the other."""
    return (one[0] + other[0], one[1] * other[1], one[2] + other[2])


def best_stretch(one, other):
    """The stretch of the ways of both beside each other; None stands for no ways."""
    if one is None:
        return other
    if other is None or one[0] < other[0]:
        return one
    if other[0] < one[0]:
        return other
    return (one[0], one[1] + other[1], min(one[2], other[2]))


def shortest_from(lines, start, barred):
    """For each place the stretch from the start; the ways go on through no barred place."""
    found = [None for _ in lines]
    closed = [False for _ in lines]
    found[start] = (0, 1, 0)
    queue = [(0, start)]
    while queue:
        spot = heappop(queue)[1]
        if closed[spot]:
            continue
        closed[spot] = True
        if spot in barred and spot != start:
            continue
        for other, stretch in lines[spot]:
            if not closed[other]:
                new = joined_stretch(found[spot], stretch)
                if found[other] is None or new[0] < found[other][0]:
                    heappush(queue, (new[0], other))
                found[other] = best_stretch(found[other], new)
    return found


def stretches_in(piece, stretches):
    """The stretches between the mouth places of a piece, given those of the kinds of its buds."""
    lines = lines_by_place(len(places_of(piece)), links_of(piece, stretches))
    mouth = list(range(piece.mouth))
    told = {}
    for one in mouth:
        found = shortest_from(lines, one, mouth)
        for other in range(one + 1, piece.mouth):
            told[(one, other)] = found[other]
    return told


def all_stretches(plan):
    """For each kind the stretches between each two mouth places, (index, lesser first)."""
    stretches = {}
    for kind in plan.pieces:
        mouth = plan.pieces[kind].mouth
        pairs = [(one, other) for one in range(mouth) for other in range(one + 1, mouth)]
        stretches[kind] = {pair: None for pair in pairs}
    # A shortest way never holds, further down, another one for the same kind and letters: so
    # after as many rounds as there are kinds and pairs of letters, nothing changes any more.
    while True:
        pieces = plan.pieces
        told = {kind: stretches_in(pieces[kind], stretches) for kind in pieces}
        if told == stretches:
            return stretches
        stretches = told


def all_lengths(piece, stretches):
    """The table of the least lengths between all places of a piece, in what grows from there."""
    lines = lines_by_place(len(places_of(piece)), links_of(piece, stretches))
    table = []
    for start in range(len(lines)):
        found = shortest_from(lines, start, ())
        table.append([None if stretch is None else stretch[0] for stretch in found])
    return table


def all_passes(piece, stretches):
    """For each mouth place the stretches to all places, by ways through no other mouth place."""
    lines = lines_by_place(len(places_of(piece)), links_of(piece, stretches))
    mouth = list(range(piece.mouth))
    return [shortest_from(lines, start, mouth) for start in mouth]


def stretch_tables(plan):
    """all_stretches of a book, worked out once."""
    if "stretches" not in plan.tables:
        plan.tables["stretches"] = all_stretches(plan)
    return plan.tables["stretches"]


def length_tables(plan):
    """all_lengths for each kind of a book, worked out once."""
    if "lengths" not in plan.tables:
        stretches = stretch_tables(plan)
        pieces = plan.pieces
        plan.tables["lengths"] = {kind: all_lengths(pieces[kind], stretches) for kind in pieces}
    return plan.tables["lengths"]


def pass_tables(plan):
    """all_passes for each kind of a book, worked out once."""
    if "passes" not in plan.tables:
        stretches = stretch_tables(plan)
        pieces = plan.pieces
        plan.tables["passes"] = {kind: all_passes(pieces[kind], stretches) for kind in pieces}
    return plan.tables["passes"]
