"""Loops and the ends of their tails in the web of a book, looked at one round after another."""

from growwebs.climbs import bud_climb, climbed
from growwebs.distances import mouth_lengths
from growwebs.errors import NoPiece, NoPlace, NotBack
from growwebs.pieces import is_place, spot_of
from growwebs.powers import applied, meeting, turned_table
from growwebs.reaches import mouth_reach
from growwebs.rows import first_of_row, is_row, kept_row, stretches_of
from growwebs.stretches import count_common, count_numbers, first_numbers, number_at
from growwebs.stretches import numbers_behind, spelled
from growwebs.walks import walk


class Round:
    """A loop of a book: its stretches, the kind to which its word leads back, and its climb."""

    def __init__(self, plan, loop, kind):
        self.head = loop.head.stretches
        self.word = loop.word
        self.kind = kind
        self.across, self.down, _ = climbed(plan, kind, ((loop.word, 1),))


class End:
    """A told place at the end of a tail: the stretches of the tail and the index of the place."""

    def __init__(self, plan, kind, tail, spot):
        self.pairs = stretches_of(tail)
        self.spot = spot
        self.kind = kind
        self.lengths = mouth_reach(plan, kind, self.pairs, spot)


def checked_kind(plan, row):
    """The kind at a row; NoPiece for the shortest beginning that is no row of the web."""
    kind, many = walk(plan, row)
    if kind is None:
        raise NoPiece(kept_row(first_of_row(row, many)))
    return kind


def checked_round(plan, loop):
    """The Round of a loop, if its word leads from its head back to the same kind."""
    kind = checked_kind(plan, loop.head)
    back = checked_kind(plan, loop.head + loop.word)
    if kind != back:
        raise NotBack(kind, back)
    return Round(plan, loop, kind)


def checked_end(plan, loop, tail, told):
    """The End that is told behind the head of a loop and a tail."""
    if not is_row(tail):
        raise NoPiece(tail)
    piece = plan.pieces[checked_kind(plan, loop.head + tail)]
    if not is_place(told, piece.mouth, len(piece.letters)):
        raise NoPlace(told)
    return End(plan, checked_kind(plan, loop.head), tail, spot_of(piece, told))


def reaches_along(plan, end, most):
    """The reaches of an end from the pieces on its tail, behind 0, 1 and so on to most numbers."""
    numbers = spelled(first_numbers(end.pairs, most))
    kinds = [end.kind]
    for number in numbers:
        kinds.append(bud_climb(plan, kinds[-1], number)[2])
    reaches = [mouth_reach(plan, kinds[-1], numbers_behind(end.pairs, len(numbers)), end.spot)]
    for at in range(len(numbers) - 1, -1, -1):
        reaches.append(applied(bud_climb(plan, kinds[at], numbers[at])[1], reaches[-1]))
    return reaches[::-1]


def rounds_on_row(row, loop):
    """How many of the rows head, head and word, and so on are beginnings of a tuple."""
    at = count_numbers(loop.head)
    if count_common(loop.head, ((row, 1),)) < at:
        return 0
    many = 1
    while row[at:at + len(loop.word)] == loop.word:
        at = at + len(loop.word)
        many = many + 1
    return many


def seen_end(view, kinds, depth, end, reaches):
    """The distance from a view's place to the end whose tail is behind depth numbers of its row."""
    same = count_common(((view.row[depth:], 1),), end.pairs)
    lengths = view.rows[depth + same]
    if same == count_numbers(end.pairs):
        return lengths[end.spot]
    piece = view.plan.pieces[kinds[depth + same]]
    return meeting(mouth_lengths(piece, number_at(end.pairs, same), lengths), reaches[same + 1])


def lengths_beside(view, kinds, pairs):
    """The distances from a view's place to the mouth of the piece at a row that leaves its row."""
    same = count_common(((view.row, 1),), pairs)
    number = number_at(pairs, same)
    piece = view.plan.pieces[kinds[same]]
    mouth = mouth_lengths(piece, number, view.rows[same])
    down = climbed(view.plan, piece.buds[number][0], numbers_behind(pairs, same + 1))[1]
    return applied(turned_table(down), mouth)
