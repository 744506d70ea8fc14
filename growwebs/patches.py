"""Patches: the pieces on some rows of a web, with the ways through all that hangs on them.

The pieces and the places of a patch have numbers, so that rows need not be written out.
"""

from growwebs.lengths import lines_by_place, links_of_bud, links_of_ties, stretch_tables
from growwebs.pieces import spot_of


class Patch:
    """The pieces on some rows and on all their beginnings; the piece of the seed is number 0."""

    def __init__(self, plan, rows):
        self.plan = plan
        self.kinds = []
        self.hangs = []
        self.hung = {}
        self.spots = []
        self.homes = []
        add_piece(self, plan.seed, None, [])
        for row in rows:
            add_row(self, row)


def add_piece(patch, kind, hang, mouth):
    """Add a piece that hangs at (number of a piece, bud) with the places of its mouth."""
    at = len(patch.kinds)
    patch.kinds.append(kind)
    patch.hangs.append(hang)
    spots = list(mouth)
    for number in range(len(patch.plan.pieces[kind].letters)):
        spots.append(len(patch.homes))
        patch.homes.append((at, number))
    patch.spots.append(spots)


def piece_at(patch, at):
    """The Piece with a number."""
    return patch.plan.pieces[patch.kinds[at]]


def add_row(patch, row):
    """Add the pieces on a row of the web."""
    at = 0
    for number in row:
        if (at, number) not in patch.hung:
            kind, told = piece_at(patch, at).buds[number]
            mouth = [patch.spots[at][spot_of(piece_at(patch, at), place)] for place in told]
            patch.hung[(at, number)] = len(patch.kinds)
            add_piece(patch, kind, (at, number), mouth)
        at = patch.hung[(at, number)]


def number_of_piece(patch, row):
    """The number of the piece at a row, None if it is not in the patch."""
    at = 0
    for number in row:
        if (at, number) not in patch.hung:
            return None
        at = patch.hung[(at, number)]
    return at


def spot_in(patch, row, number):
    """The number of a new place of the piece at a row of the patch."""
    at = number_of_piece(patch, row)
    return patch.spots[at][spot_of(piece_at(patch, at), number)]


def row_of(patch, at):
    """The row of the piece with a number."""
    numbers = []
    while patch.hangs[at] is not None:
        at, number = patch.hangs[at]
        numbers.append(number)
    return tuple(numbers[::-1])


def free_buds(patch, at):
    """The numbers of the buds of a piece at which no piece of the patch hangs."""
    many = len(piece_at(patch, at).buds)
    return [number for number in range(many) if (at, number) not in patch.hung]


def links_on(patch):
    """All links (place, place, stretch, (number of the piece, step)) of the patch."""
    stretches = stretch_tables(patch.plan)
    found = []
    for at in range(len(patch.kinds)):
        piece = piece_at(patch, at)
        links = links_of_ties(piece)
        for number in free_buds(patch, at):
            links.extend(links_of_bud(piece, number, stretches))
        spots = patch.spots[at]
        for one, other, stretch, step in links:
            found.append((spots[one], spots[other], stretch, (at, step)))
    return found


def lines_on(patch):
    """For each place of the patch the list of (other place, stretch) of its links."""
    return lines_by_place(len(patch.homes), links_on(patch))
