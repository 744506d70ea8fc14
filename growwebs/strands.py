"""Strands, pairs (kind, part of its mouth), and the lanes from strand to strand."""

from growwebs.distances import mouth_lengths
from growwebs.lengths import length_tables
from growwebs.pieces import MOUTH, spot_of


def parts_in(table, mouth):
    """The groups of mouth letters that are joined, in a table of lengths with so many of them."""
    groups = []
    for row in table[:mouth]:
        group = "".join([MOUTH[to] for to in range(mouth) if row[to] is not None])
        if group not in groups:
            groups.append(group)
    return tuple(groups)


def part_tables(plan):
    """The parts of the mouths of all kinds of a book, worked out once."""
    if "parts" not in plan.tables:
        tables = length_tables(plan)
        plan.tables["parts"] = {kind: parts_in(tables[kind], plan.pieces[kind].mouth) for kind in tables}
    return plan.tables["parts"]


def lengths_of_part(part, lengths):
    """Of the lengths of the places of a mouth those of a part, in order."""
    return [lengths[MOUTH.index(letter)] for letter in part]


def joined_parts_of(plan, kind, lengths):
    """The parts of a kind's mouth whose places have lengths: all of a part have, or none."""
    parts = part_tables(plan)[kind]
    return [part for part in parts if lengths[MOUTH.index(part[0])] is not None]


def lanes_from(plan, kind, part):
    """The ascending triples (bud, kind, part) of the lanes from a strand."""
    piece = plan.pieces[kind]
    lengths = length_tables(plan)[kind][MOUTH.index(part[0])]
    found = []
    for number, (below, _) in enumerate(piece.buds):
        mouth = mouth_lengths(piece, number, lengths)
        found.extend([(number, below, joined) for joined in joined_parts_of(plan, below, mouth)])
    return found


def lane_tables(plan):
    """The lanes from all strands of a book, worked out once."""
    if "lanes" not in plan.tables:
        lanes = {}
        for kind in plan.pieces:
            for part in part_tables(plan)[kind]:
                lanes[(kind, part)] = lanes_from(plan, kind, part)
        plan.tables["lanes"] = lanes
    return plan.tables["lanes"]


def strand_lines(plan):
    """For each strand the list of pairs (bud, strand) of its lanes."""
    lanes = lane_tables(plan)
    return {strand: [(bud, (kind, part)) for bud, kind, part in lanes[strand]] for strand in lanes}


def entries_at(view, kinds, depth):
    """The entries (bud, kind, part, lengths of the part's places) of the piece at a depth of a row."""
    piece = view.plan.pieces[kinds[depth]]
    found = []
    for number, (below, _) in enumerate(piece.buds):
        if depth < len(view.row) and view.row[depth] == number:
            continue
        lengths = mouth_lengths(piece, number, view.rows[depth])
        for part in joined_parts_of(view.plan, below, lengths):
            found.append((number, below, part, lengths_of_part(part, lengths)))
    return found


def spots_of_part(piece, number, part):
    """The indexes in a piece of the places of a part of the mouth of a bud."""
    told = piece.buds[number][1]
    return [spot_of(piece, told[MOUTH.index(letter)]) for letter in part]
