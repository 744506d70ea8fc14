"""Books that grow the same web: whether they do, where they part, and the least of them."""

from growwebs.books import Book
from growwebs.checks import ALPHABET
from growwebs.needs import living_kinds, needed_groups, needed_letters
from growwebs.pieces import MOUTH, Piece
from growwebs.twins import first_parting


def same(one, other):
    """Whether two books grow the same web."""
    return parting(one, other) is None


def parting(one, other):
    """The first (row, number), shorter first, at which the webs of two books differ, or None."""
    return first_parting(one.plan.pieces, other.plan.pieces, (one.seed, other.seed, ()))


class Trimmed:
    """The kinds of a book without what does not show: what lives, and the mouth places it needs."""

    def __init__(self, book):
        self.pieces = book.plan.pieces
        self.seed = book.seed
        self.living = living_kinds(self.pieces)
        needed = needed_letters(self.pieces)
        self.groups = {kind: needed_groups(self.pieces, kind, needed[kind]) for kind in self.pieces}
        self.first = {kind: self._first_like(kind) for kind in self.pieces}

    def _first_like(self, kind):
        """The first kind, other than the seed's, from which the same grows."""
        for other in self.pieces:
            if other == kind or (other != self.seed and kind != self.seed and self._are_like(other, kind)):
                return other
        return kind

    def _are_like(self, one, other):
        letters = ordered(self.groups[one])
        others = ordered(self.groups[other])
        if len(letters) != len(others):
            return False
        alike = tuple(sorted([(letter, beside) for letter, beside in zip(letters, others)]))
        return first_parting(self.pieces, self.pieces, (one, other, alike)) is None


def ordered(groups):
    """All letters of some groups, in order."""
    return [letter for group in groups for letter in group]


def renamed(trimmed, kind):
    """The dict of the needed letters of a kind to the letters that they get."""
    return {letter: new for letter, new in zip(ordered(trimmed.groups[kind]), MOUTH)}


def told_in(letters, told):
    """A place of a piece, by its new letter if it is a mouth place."""
    return letters[told] if isinstance(told, str) else told


def row_of_bud(trimmed, below, row, letters):
    """The new row of a bud of a kind that needs some of its mouth places; () if it needs none."""
    found = []
    for group in trimmed.groups[below]:
        places = [told_in(letters, row[MOUTH.index(letter)]) for letter in group]
        # Nothing below tells these places apart, so the piece itself has to bring them in order.
        found.extend(sorted(places, key=lambda told: (not isinstance(told, str), told)))
    return tuple(found)


def hung_rows(piece, letters, rows):
    """The rows of the buds, where those that need no place hang at one that few other buds hang at.

    That is a new one, if there is one: so no place is handed on for ever.
    """
    places = list(range(len(piece.letters)))
    if not places:
        places = list(MOUTH[:max(1, len(letters))])
    hung = list(rows)
    for number, row in enumerate(rows):
        if not row:
            hung[number] = (min(places, key=lambda told: (count_with(hung, told), told)),)
    return hung


def count_with(rows, told):
    """How many rows have a place."""
    return len([row for row in rows if told in row])


def least_piece(trimmed, kind, names):
    """The new piece of a kind; names has the new names of the first kinds like each one."""
    piece = trimmed.pieces[kind]
    letters = renamed(trimmed, kind)
    kept = living_buds(trimmed, kind)
    rows = [row_of_bud(trimmed, below, row, letters) for below, row in kept]
    kinds = [names[trimmed.first[below]] for below, _ in kept]
    ties = [(one, told_in(letters, other), length) for one, other, length in piece.ties]
    mouth = 0 if kind == trimmed.seed else max(1, len(letters))
    return Piece(mouth, piece.letters, ties, list(zip(kinds, hung_rows(piece, letters, rows))))


def living_buds(trimmed, kind):
    """The buds of a kind up to the last one at which something lives."""
    buds = trimmed.pieces[kind].buds
    while buds and buds[-1][0] not in trimmed.living:
        buds = buds[:-1]
    return buds


def least_book(book):
    """The book with as few kinds as possible that grows the same web."""
    trimmed = Trimmed(book)
    names = {book.seed: ALPHABET[0]}
    waiting = [book.seed]
    at = 0
    while at < len(waiting):
        for below, _ in living_buds(trimmed, waiting[at]):
            kind = trimmed.first[below]
            if kind not in names:
                names[kind] = ALPHABET[len(names)]
                waiting.append(kind)
        at += 1
    return Book(names[book.seed], {names[kind]: least_piece(trimmed, kind, names) for kind in waiting})
