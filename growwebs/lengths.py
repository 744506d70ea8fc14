"""The lengths of ways inside what grows from the kinds of a book.

The places of a piece are told here by their indexes: the mouth letters first, then the new ones.
A stretch is a pair (least length, how many ways have it), None where there is no way.
"""

from growwebs.pieces import MOUTH, places_of, spot_of


def edges_of(piece, stretches):
    """The edges (index, index, length, number) of a piece: its ties, and ways within its buds."""
    edges = []
    for one, other, length in piece.ties:
        edges.append((spot_of(piece, one), spot_of(piece, other), length, 1))
    for kind, row in piece.buds:
        for pair in stretches[kind]:
            if stretches[kind][pair] is not None:
                length, number = stretches[kind][pair]
                one, other = spot_of(piece, row[pair[0]]), spot_of(piece, row[pair[1]])
                edges.append((one, other, length, number))
    return edges


def edges_by_place(piece, edges):
    """For each index of a place the list of (index of the other end, length, number)."""
    lines = [[] for _ in places_of(piece)]
    for one, other, length, number in edges:
        lines[one].append((other, length, number))
        lines[other].append((one, length, number))
    return lines


def nearest_open(found, closed):
    """The index with the least length among those that are not closed, or None."""
    spots = [spot for spot in range(len(found)) if found[spot] is not None and not closed[spot]]
    if not spots:
        return None
    return min([(found[spot][0], spot) for spot in spots])[1]


def shortest_from(piece, lines, start, barred):
    """For each index the stretch from the start; the ways go on through no barred index."""
    found = [None for _ in lines]
    closed = [False for _ in lines]
    found[start] = (0, 1)
    while True:
        spot = nearest_open(found, closed)
        if spot is None:
            return found
        closed[spot] = True
        if spot in barred and spot != start:
            continue
        for other, length, number in lines[spot]:
            far = found[spot][0] + length
            many = found[spot][1] * number
            if found[other] is None or far < found[other][0]:
                found[other] = (far, many)
            elif far == found[other][0]:
                found[other] = (far, found[other][1] + many)


def stretches_in(piece, stretches):
    """The stretches between the mouth places of a piece, given those of the kinds of its buds."""
    lines = edges_by_place(piece, edges_of(piece, stretches))
    mouth = list(range(piece.mouth))
    told = {}
    for one in mouth:
        found = shortest_from(piece, lines, one, mouth)
        for other in range(one + 1, piece.mouth):
            told[(one, other)] = found[other]
    return told


def all_stretches(plan):
    """For each kind the stretches between each two mouth places, (index, lesser first)."""
    stretches = {}
    for kind in plan.pieces:
        mouth = plan.pieces[kind].mouth
        pairs = [(one, other) for one in range(mouth) for other in range(one + 1, mouth)]
        stretches[kind] = {pair: None for pair in pairs}
    # A shortest way never holds, further down, another one for the same kind and letters: so
    # after as many rounds as there are kinds and pairs of letters, nothing changes any more.
    while True:
        pieces = plan.pieces
        told = {kind: stretches_in(pieces[kind], stretches) for kind in pieces}
        if told == stretches:
            return stretches
        stretches = told


def all_lengths(piece, stretches):
    """The table of the least lengths between all places of a piece, in what grows from there."""
    lines = edges_by_place(piece, edges_of(piece, stretches))
    table = []
    for start in range(len(lines)):
        found = shortest_from(piece, lines, start, ())
        table.append([None if stretch is None else stretch[0] for stretch in found])
    return table


def stretch_tables(plan):
    """all_stretches of a book, worked out once."""
    if "stretches" not in plan.tables:
        plan.tables["stretches"] = all_stretches(plan)
    return plan.tables["stretches"]


def length_tables(plan):
    """all_lengths for each kind of a book, worked out once."""
    if "lengths" not in plan.tables:
        stretches = stretch_tables(plan)
        pieces = plan.pieces
        plan.tables["lengths"] = {kind: all_lengths(pieces[kind], stretches) for kind in pieces}
    return plan.tables["lengths"]
