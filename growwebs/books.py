"""Books, which tell webs, and the places of webs."""

from growwebs.checks import is_word
from growwebs.errors import BadBook, BadBud, HandedOn, NoPiece, NoPlace, OtherBook, TooLong
from growwebs.errors import TooMany
from growwebs.growing import grow, has_more
from growwebs.pieces import Piece, is_place
from growwebs.rings import first_ring, goes_on, greatest_lies
from growwebs.rows import LONGEST_TUPLE, count_row, first_of_row, is_row, kept_row
from growwebs.walks import MOST_LIES, Plan, lying_in, mouth_at, ties_at, walk

MOST_KINDS = 6


def check_kinds(seed, pieces):
    """Raise BadBook for a seed or a kind that is not as told."""
    if not isinstance(seed, str) or seed not in pieces:
        raise BadBook(seed)
    for kind in sorted(pieces):
        if not is_word(kind) or not isinstance(pieces[kind], Piece):
            raise BadBook(kind)
    if pieces[seed].mouth > 0 or not pieces[seed].letters:
        raise BadBook(seed)


def check_buds(pieces):
    """Raise BadBud for the first bud that does not fit to the piece of its kind."""
    for kind in sorted(pieces):
        for number, (below, row) in enumerate(pieces[kind].buds):
            if below not in pieces or len(row) != pieces[below].mouth:
                raise BadBud(kind, number)


def check_growth(pieces):
    """Raise an error if a place is handed on for ever, or if there is too much of something."""
    ring = first_ring(pieces)
    if ring is not None:
        raise HandedOn(ring)
    if len(pieces) > MOST_KINDS:
        raise TooMany(MOST_KINDS)
    if greatest_lies(pieces) > MOST_LIES:
        raise TooMany(MOST_LIES)


class Book:
    """Pieces for some kinds and the kind of the seed: together they tell one web."""

    def __init__(self, seed, pieces):
        check_kinds(seed, pieces)
        check_buds(pieces)
        check_growth(pieces)
        self.seed = seed
        self.pieces = {kind: pieces[kind] for kind in pieces}
        self.plan = Plan(seed, pieces)
        self._goes_on = goes_on(seed, pieces)

    def __eq__(self, other):
        if self is other:
            return True
        if not isinstance(other, Book):
            return False
        return self.seed == other.seed and self.pieces == other.pieces

    @property
    def is_finite(self):
        """Whether the web has finitely many places."""
        return not self._goes_on

    def kind_at(self, row):
        """The kind of the piece at a row."""
        if not is_row(row):
            raise NoPiece(row)
        kind, many = walk(self.plan, row)
        if kind is None:
            raise NoPiece(kept_row(first_of_row(row, many)))
        return kind

    def place(self, row, told):
        """The Place that is told by a number or a letter at the piece at a row."""
        piece = self.plan.pieces[self.kind_at(row)]
        if not is_place(told, piece.mouth, len(piece.letters)):
            raise NoPlace(told)
        if isinstance(told, str):
            depth, told = mouth_at(self.plan, row)[1][told]
            row = first_of_row(row, depth)
        return Place(self, row, told)

    def pieces_of(self, place):
        """The ascending list of the rows at whose pieces a place lies."""
        self._check_near(place)
        return [found[0] for found in lying_in(self.plan, place.row, place.number)]

    def letter_of(self, place):
        """The letter of a place, a full stop if it has none."""
        check_book(self, place)
        kind = walk(self.plan, place.row)[0]
        return self.plan.pieces[kind].letters[place.number]

    def neighbours(self, place):
        """The list of pairs (Place, length) for all ties of a place, ascending by places."""
        self._check_near(place)
        ties = ties_at(self.plan, place.row, place.number)
        return [(Place(self, row, number), length) for (row, number), length in ties]

    def grown(self, depth, *, most=2000):
        """The list of the places of the web of a depth, and the list of its ties."""
        if has_more(self.plan, depth, most):
            raise TooMany(most)
        names, ties = grow(self.plan, depth)
        places = [Place(self, row, number) for row, number in names]
        return places, [(places[one], places[other], length) for one, other, length in ties]

    def _check_near(self, place):
        check_book(self, place)
        if count_row(place.row) > LONGEST_TUPLE:
            raise TooLong(count_row(place.row))


def check_book(book, place):
    """Raise OtherBook for a place of an unequal book."""
    if place.book != book:
        raise OtherBook()


class Place:
    """A place of the web of a book: the new place with this number of the piece at a row."""

    def __init__(self, book, row, number):
        self.book = book
        self.row = kept_row(row)
        self.number = number

    def __eq__(self, other):
        if not isinstance(other, Place) or self.number != other.number:
            return False
        return self.row == other.row and self.book == other.book
