"""Unfolding: a bud is replaced by the piece that grows there, and the web stays as it is."""

from growwebs.books import Book, Place, check_book
from growwebs.checks import is_within
from growwebs.errors import NoBud, NoKind, TooGreat, TooLong
from growwebs.pieces import MOST_BUDS, MOST_NEW, MOUTH, Piece
from growwebs.rows import LONGEST_TUPLE, count_row


def shifted(row, first, told):
    """A place of the piece at a bud, as a place of the piece that takes it in."""
    return row[MOUTH.index(told)] if isinstance(told, str) else first + told


def joined_piece(piece, number, below):
    """A piece with the piece of its bud in the place of the bud."""
    row = piece.buds[number][1]
    first = len(piece.letters)
    ties = [(shifted(row, first, one), shifted(row, first, other), length) for one, other, length in below.ties]
    buds = [(kind, tuple([shifted(row, first, told) for told in places])) for kind, places in below.buds]
    return Piece(piece.mouth, piece.letters + below.letters, list(piece.ties) + ties,
                 list(piece.buds[:number]) + buds + list(piece.buds[number + 1:]))


class Unfolding:
    """A book in which a bud of a kind is replaced, and which places of both webs are the same."""

    def __init__(self, book, kind, number):
        pieces = book.plan.pieces
        if not isinstance(kind, str) or kind not in pieces:
            raise NoKind(kind)
        piece = pieces[kind]
        if not is_within(number, 0, len(piece.buds) - 1):
            raise NoBud(kind, number)
        below = pieces[piece.buds[number][0]]
        if len(piece.letters) + len(below.letters) > MOST_NEW or len(piece.buds) - 1 + len(below.buds) > MOST_BUDS:
            raise TooGreat()
        changed = {other: pieces[other] for other in pieces}
        changed[kind] = joined_piece(piece, number, below)
        self.book = book
        self.kind = kind
        self.bud_number = number
        self.result = Book(book.seed, changed)
        self._many_new = len(piece.letters)
        self._many_buds = len(below.buds)

    def led(self, place):
        """The place of the result that a place of the book becomes."""
        check_near(self.book, place)
        kind = self.book.seed
        row = []
        inside = False
        for number in place.row:
            if kind == self.kind and not inside and number == self.bud_number:
                inside = True
            else:
                row.append(self._led_bud(kind, inside, number))
                inside = False
            kind = self.book.plan.pieces[kind].buds[number][0]
        return Place(self.result, tuple(row), place.number + self._many_new if inside else place.number)

    def back(self, place):
        """The place of the book that becomes a place of the result."""
        check_near(self.result, place)
        kind = self.book.seed
        row = []
        for number in place.row:
            row.extend(self._numbers_back(kind, number))
            kind = self.result.plan.pieces[kind].buds[number][0]
        if kind == self.kind and place.number >= self._many_new:
            return Place(self.book, tuple(row + [self.bud_number]), place.number - self._many_new)
        return Place(self.book, tuple(row), place.number)

    def _led_bud(self, kind, inside, number):
        """The number in the result of a bud; inside tells whether its piece has been taken in."""
        if inside:
            return self.bud_number + number
        if kind == self.kind and number > self.bud_number:
            return number - 1 + self._many_buds
        return number

    def _numbers_back(self, kind, number):
        """The numbers of buds that a bud of the result stands for."""
        if kind != self.kind or number < self.bud_number:
            return [number]
        if number < self.bud_number + self._many_buds:
            return [self.bud_number, number - self.bud_number]
        return [number - self._many_buds + 1]


def check_near(book, place):
    """Raise an error for a place of an unequal book, or one with too long a row."""
    check_book(book, place)
    if count_row(place.row) > LONGEST_TUPLE:
        raise TooLong(count_row(place.row))
