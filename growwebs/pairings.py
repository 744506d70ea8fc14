"""Pairings: whether and how all places of a web can be joined, two by two, along its ties."""

from growwebs.books import Place, check_book
from growwebs.choices import Reckoning, first_failing, keys_at, rows_to
from growwebs.closed import key_at, keys_with_rows, met_values
from growwebs.errors import NoKind, OtherBook, TooLong
from growwebs.matchings import all_pairings, cover_of, keys_of, settled_way, subsets_of
from growwebs.pieces import MOUTH
from growwebs.rows import LONGEST_TUPLE, count_row
from growwebs.walks import name_of, names_below, names_of_mouth


class Pairings:
    """All pairings of the web of a book."""

    def __init__(self, book):
        self.book = book
        self._reckoning = Reckoning(all_pairings(book.plan), (book.seed, ""))
        self._fails_at = first_failing(self._reckoning)

    @property
    def exists(self):
        """Whether the web has a pairing."""
        return self._fails_at is None

    def may(self, kind):
        """The ascending tuple of the strings of letters of a kind's mouth that can be gone on."""
        if not isinstance(kind, str) or kind not in self.book.plan.pieces:
            raise NoKind(kind)
        words = subsets_of(MOUTH[:self.book.plan.pieces[kind].mouth])
        return tuple([word for word in words if (kind, word) not in self._reckoning.rounds])

    def fails_at(self):
        """None, or the least depth to which the web cannot be paired."""
        return self._fails_at

    def bar(self):
        """None, or rows of pieces whose places cannot be paired together."""
        if self._fails_at is None:
            return None
        return rows_to(self.book.plan, self._fails_at)

    def lowest(self):
        """The Pairing in which each piece has the first way that can be gone on, or None."""
        if self._fails_at is not None:
            return None
        alive = self._reckoning.alive
        return Pairing(self.book, {key: alive[key][0][1] for key in alive})

    def partners(self, place):
        """The tuple of the places, shorter first, with which a place is paired in some pairing."""
        check_book(self.book, place)
        if count_row(place.row) > LONGEST_TUPLE:
            raise TooLong(count_row(place.row))
        if self._fails_at is not None:
            return ()
        names = names_of_partners(self.book.plan, self._reckoning, place.row, place.number)
        return tuple([Place(self.book, row, number) for row, number in names])


def names_of_partners(plan, reckoning, row, number):
    """The names, shorter first, of the places with which a new place is paired in some pairing."""
    found = {}
    waiting = [(row, number, names_of_mouth(plan, row), keys_at(reckoning, row))]
    while waiting:
        row, told, mouth, keys = waiting.pop()
        piece = plan.pieces[keys[0][0]]
        deeper = {}
        for key in keys:
            for below, way in reckoning.alive[key]:
                at, letter = cover_of(piece, way, told)
                if letter is None:
                    one, other, _ = piece.ties[at]
                    found[name_of(row, mouth, other if told == one else one)] = True
                else:
                    deeper[(at, letter)] = deeper.get((at, letter), []) + [below[at]]
        for at, letter in deeper:
            below = sorted(set(deeper[(at, letter)]))
            waiting.append((row + (at,), letter, names_below(piece, at, row, mouth), below))
    return sorted(found, key=lambda name: (len(name[0]), name))


class Pairing:
    """The pairing that a closed table tells."""

    def __init__(self, book, table):
        self.book = book
        told = met_values(book.seed, table, lambda key, value: settled_pairing(book.plan, key, value))
        self.table = told[0]
        self._belows = told[1]

    def __eq__(self, other):
        if not isinstance(other, Pairing):
            return False
        return self.book == other.book and self._apart(other) is None

    def partner(self, place):
        """The place with which a place is paired."""
        check_book(self.book, place)
        row = place.row
        told = place.number
        key = key_at(self._belows, (self.book.seed, ""), row)
        while True:
            piece = self.book.plan.pieces[key[0]]
            at, letter = cover_of(piece, self.table[key], told)
            if letter is None:
                one, other, _ = piece.ties[at]
                return self.book.place(row, other if told == one else one)
            row = row + (at,)
            key = self._belows[key][at]
            told = letter

    def first_apart(self, other):
        """The first place, shorter first, that has unlike partners in two pairings, or None."""
        if self.book != other.book:
            raise OtherBook()
        name = self._apart(other)
        return None if name is None else Place(self.book, name[0], name[1])

    def _apart(self, other):
        """The name of the first place with unlike partners in two pairings of equal books, or None."""
        pieces = self.book.plan.pieces
        # What has another partner further up comes first: so both have one key at each row looked at.
        for row, key in keys_with_rows(self._belows, (self.book.seed, "")):
            for number in range(len(pieces[key[0]].letters)):
                if not self._pairs_alike(other, key, number):
                    return row, number
        return None

    def _pairs_alike(self, other, key, told):
        """Whether a new place of a piece that has this key in both pairings has one partner in both."""
        beside = key
        while True:
            piece = self.book.plan.pieces[key[0]]
            cover = cover_of(piece, self.table[key], told)
            # Two places have at most one tie, so one partner means one tie of one piece.
            if cover != cover_of(piece, other.table[beside], told):
                return False
            at, told = cover
            if told is None:
                return True
            key = self._belows[key][at]
            beside = other._belows[beside][at]


def settled_pairing(plan, key, value):
    """The pair (way, keys of the buds) for a value of a table that is right, else None."""
    piece = plan.pieces[key[0]]
    way = settled_way(piece, key[1], value)
    if way is None:
        return None
    return way, keys_of(piece, way[1])
