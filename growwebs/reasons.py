"""Reasons: numbers that show, without a search, that no way is shorter than a length."""

from growwebs.books import check_book
from growwebs.checks import is_integer, is_integers, is_list
from growwebs.copies import copied
from growwebs.distances import lengths_below, seen_length, view_from
from growwebs.errors import NotJoined
from growwebs.lengths import length_tables
from growwebs.nones import lesser_of
from growwebs.pieces import places_of, spot_of
from growwebs.rows import written_out


class Reason:
    """A length, heights for the kinds of a book, and heights for the pieces on two rows."""

    def __init__(self, length, kinds, rows):
        self.length = length
        self.kinds = copied(kinds)
        self.rows = copied(rows)


def broad_kinds(plan):
    """The kinds with a mouth of 2 or 3 places."""
    return [kind for kind in plan.pieces if plan.pieces[kind].mouth > 1]


def are_heights(value, piece):
    """Whether the value is a list of integers, one for each place of a piece."""
    return is_integers(value) and len(value) == len(places_of(piece))


def ties_fit(piece, heights):
    """Whether the places of each tie of a piece fit within its length."""
    for one, other, length in piece.ties:
        if abs(heights[spot_of(piece, one)] - heights[spot_of(piece, other)]) > length:
            return False
    return True


def bud_fits(piece, number, heights, kinds):
    """Whether each two places of a bud fit within the bound of its kind."""
    kind, told = piece.buds[number]
    mouth = [heights[spot_of(piece, place)] for place in told]
    for one in range(len(mouth)):
        for other in range(one + 1, len(mouth)):
            if abs(mouth[one] - mouth[other]) > kinds[kind][one][other]:
                return False
    return True


def fits(piece, heights, kinds, left_out):
    """Whether all ties of a piece fit, and all its buds but some."""
    if not ties_fit(piece, heights):
        return False
    buds = [number for number in range(len(piece.buds)) if number not in left_out]
    return all([bud_fits(piece, number, heights, kinds) for number in buds])


def kinds_told(plan, kinds):
    """Whether the value has lists of heights, with 0 for their letters, for just the broad kinds."""
    broad = broad_kinds(plan)
    if not isinstance(kinds, dict) or len(kinds) != len(broad):
        return False
    for kind in broad:
        piece = plan.pieces[kind]
        told = kinds.get(kind)
        if not is_list(told) or len(told) != piece.mouth - 1:
            return False
        for at, heights in enumerate(told):
            if not are_heights(heights, piece) or heights[at] != 0:
                return False
    return True


def kinds_hold(plan, kinds):
    """Whether the heights of all kinds are told and fit."""
    if not kinds_told(plan, kinds):
        return False
    for kind in kinds:
        piece = plan.pieces[kind]
        if not all([fits(piece, heights, kinds, ()) for heights in kinds[kind]]):
            return False
    return True


def beginnings(rows):
    """All beginnings of some rows, each once, shorter ones ahead on each row."""
    found = {}
    for row in rows:
        for depth in range(len(row) + 1):
            found[row[:depth]] = True
    return list(found)


def rows_told(plan, rows, wanted):
    """The kinds of the pieces at the wanted rows, if rows has heights for just these, or None."""
    if not isinstance(rows, dict) or len(rows) != len(wanted):
        return None
    if not all([isinstance(row, tuple) and is_integers(row) for row in rows]):
        return None
    kinds = {}
    for row in wanted:
        if row not in rows:
            return None
        # The rows come with their beginnings ahead, so the kind above is known.
        kinds[row] = plan.pieces[kinds[row[:-1]]].buds[row[-1]][0] if row else plan.seed
        if not are_heights(rows[row], plan.pieces[kinds[row]]):
            return None
    return kinds


def rows_hold(plan, reason, wanted):
    """Whether the heights at the rows are told and fit, also where a piece hangs on another one."""
    rows = reason.rows
    kinds = rows_told(plan, rows, wanted)
    if kinds is None:
        return False
    for row in wanted:
        piece = plan.pieces[kinds[row]]
        inside = [number for number in range(len(piece.buds)) if row + (number,) in rows]
        if not fits(piece, rows[row], reason.kinds, inside):
            return False
        for number in inside:
            told = piece.buds[number][1]
            mouth = [rows[row][spot_of(piece, place)] for place in told]
            if list(rows[row + (number,)][:len(mouth)]) != mouth:
                return False
    return True


def height_of(plan, reason, place):
    """The height of a place in the heights at its row."""
    row = written_out(place.row)
    return reason.rows[row][plan.pieces[place.book.kind_at(row)].mouth + place.number]


def reason_holds(one, other, reason):
    """Whether a Reason, whose attributes have any values, shows what it is to show."""
    check_book(one.book, other)
    if not isinstance(reason, Reason) or not is_integer(reason.length):
        return False
    plan = one.book.plan
    wanted = beginnings([written_out(one.row), written_out(other.row)])
    if not kinds_hold(plan, reason.kinds) or not rows_hold(plan, reason, wanted):
        return False
    return reason.length == height_of(plan, reason, other) - height_of(plan, reason, one)


def cut_off(lengths, most):
    """Heights for lengths: those above most, and those of places that no way joins, are most."""
    return [lesser_of(length, most) for length in lengths]


def heights_of_kinds(plan, most):
    """Heights for all broad kinds of a book."""
    told = {}
    for kind in broad_kinds(plan):
        table = length_tables(plan)[kind]
        told[kind] = [cut_off(table[at], most) for at in range(plan.pieces[kind].mouth - 1)]
    return told


def heights_of_rows(view, wanted, most):
    """Heights for the pieces at the wanted rows: the distances from the place of a view."""
    lengths = {(): view.rows[0]}
    kinds = {(): view.plan.seed}
    for row in wanted:
        if row:
            above = kinds[row[:-1]]
            lengths[row] = lengths_below(view, row[:-1], above, row[-1], lengths[row[:-1]])
            kinds[row] = view.plan.pieces[above].buds[row[-1]][0]
    return {row: cut_off(lengths[row], most) for row in wanted}


def reason(one, other):
    """A Reason that holds and whose length is the distance."""
    check_book(one.book, other)
    view = view_from(one)
    length = seen_length(view, other)
    if length is None:
        raise NotJoined()
    wanted = beginnings([view.row, written_out(other.row)])
    # Heights that are cut off at one number everywhere still fit: no difference becomes greater.
    rows = heights_of_rows(view, wanted, length)
    return Reason(length, heights_of_kinds(view.plan, length), rows)
