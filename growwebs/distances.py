"""Distances of places, what lies between two places, and the next places on the way."""

from growwebs.books import Place, check_book
from growwebs.lengths import length_tables
from growwebs.nones import lesser_of, sum_of
from growwebs.pieces import spot_of
from growwebs.rows import written_out
from growwebs.walks import lying_in, name_of


class View:
    """The distances from one place to all places of the pieces on its row."""

    def __init__(self, plan, row, rows):
        self.plan = plan
        self.row = row
        self.rows = rows


def kinds_on(plan, row):
    """The kinds of the pieces on a row that is a tuple, that of the seed first."""
    kinds = [plan.seed]
    for number in row:
        kinds.append(plan.pieces[kinds[-1]].buds[number][0])
    return kinds


def mouth_lengths(piece, number, lengths):
    """The lengths of the places of a bud, of the lengths of all places of its piece."""
    return [lengths[spot_of(piece, told)] for told in piece.buds[number][1]]


def entered(table, mouth):
    """The lengths of all places of a piece that is entered at its mouth places with these."""
    lengths = [None for _ in table]
    for at, begun in enumerate(mouth):
        if begun is not None:
            lengths = [lesser_of(old, sum_of(begun, add)) for old, add in zip(lengths, table[at])]
    return lengths


def left_below(piece, number, table, mouth):
    """The lengths of all places of a piece, out of what hangs at a bud, from its mouth's."""
    lengths = [None for _ in table]
    for told, begun in zip(piece.buds[number][1], mouth):
        if begun is not None:
            ahead = table[spot_of(piece, told)]
            lengths = [lesser_of(old, sum_of(begun, add)) for old, add in zip(lengths, ahead)]
    return lengths


def inner_lengths(plan, row, kinds, number):
    """For each piece on a row the lengths from a new place at its end, inside what grows there."""
    tables = length_tables(plan)
    found = [tables[kinds[-1]][spot_of(plan.pieces[kinds[-1]], number)]]
    for depth in range(len(row) - 1, -1, -1):
        piece = plan.pieces[kinds[depth]]
        mouth = found[-1][:len(piece.buds[row[depth]][1])]
        found.append(left_below(piece, row[depth], tables[kinds[depth]], mouth))
    return found[::-1]


def view_from(place):
    """The View from a place."""
    plan = place.book.plan
    row = written_out(place.row)
    kinds = kinds_on(plan, row)
    inner = inner_lengths(plan, row, kinds, place.number)
    rows = [inner[0]]
    for depth, number in enumerate(row):
        mouth = mouth_lengths(plan.pieces[kinds[depth]], number, rows[-1])
        outer = entered(length_tables(plan)[kinds[depth + 1]], mouth)
        rows.append([lesser_of(old, new) for old, new in zip(inner[depth + 1], outer)])
    return View(plan, row, rows)


def lengths_below(view, row, kind, number, lengths):
    """The lengths of the places of the piece at a bud, from those of its piece at the row."""
    depth = len(row)
    if view.row[:depth + 1] == row + (number,):
        return view.rows[depth + 1]
    piece = view.plan.pieces[kind]
    table = length_tables(view.plan)[piece.buds[number][0]]
    return entered(table, mouth_lengths(piece, number, lengths))


def lengths_at(view, row):
    """The distances from the view's place to all places of the piece at a row."""
    depth = 0
    while depth < min(len(row), len(view.row)) and row[depth] == view.row[depth]:
        depth += 1
    lengths = view.rows[depth]
    kinds = kinds_on(view.plan, row)
    for at in range(depth, len(row)):
        piece = view.plan.pieces[kinds[at]]
        table = length_tables(view.plan)[kinds[at + 1]]
        lengths = entered(table, mouth_lengths(piece, row[at], lengths))
    return lengths


def seen_length(view, place):
    """The distance from the view's place to a place, None if no way joins them."""
    row = written_out(place.row)
    piece = view.plan.pieces[place.book.kind_at(row)]
    return lengths_at(view, row)[spot_of(piece, place.number)]


def distance(one, other):
    """The least length of the ways from one place to the other, None if there is none."""
    check_book(one.book, other)
    return seen_length(view_from(one), other)


def is_between(place, one, other):
    """Whether a shortest way from one to other comes through the place."""
    check_book(place.book, one)
    check_book(place.book, other)
    view = view_from(place)
    length = distance(one, other)
    if length is None:
        return False
    return sum_of(seen_length(view, one), seen_length(view, other)) == length


def next_places(one, other):
    """The places that stand second on a shortest way from one to other, ascending."""
    check_book(one.book, other)
    view = view_from(other)
    goal = seen_length(view, one)
    if goal is None or goal == 0:
        return []
    names = []
    known = {}
    for row, kind, told, mouth in lying_in(view.plan, written_out(one.row), one.number):
        if row[:-1] in known:
            above, above_kind = known[row[:-1]]
            lengths = lengths_below(view, row[:-1], above_kind, row[-1], above)
        else:
            lengths = lengths_at(view, row)
        known[row] = (lengths, kind)
        names.extend(next_in(view.plan.pieces[kind], row, told, mouth, lengths, goal))
    return [Place(one.book, row, number) for row, number in sorted(names)]


def next_in(piece, row, told, mouth, lengths, goal):
    """The names of the other ends of ties of a place in a piece that begin a shortest way."""
    found = []
    for one, other, length in piece.ties:
        if told == one or told == other:
            end = other if told == one else one
            if lengths[spot_of(piece, end)] == goal - length:
                found.append(name_of(row, mouth, end))
    return found
