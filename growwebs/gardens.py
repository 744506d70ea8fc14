"""Gardens: books that change by deeds, which can be undone, and that keep what guards ask for."""

from growwebs.books import Book
from growwebs.checks import is_within
from growwebs.errors import BadBook, BadGuard, NoBud, NoKind, NoPlace, NoTie, NothingToUndo, Refused
from growwebs.guards import are_same_guards, holds, is_guard
from growwebs.pieces import Piece, is_place
from growwebs.sights import check_letter


def has_ends(tie, one, other):
    """Whether a tie joins two places."""
    return (tie[0] == one and tie[1] == other) or (tie[0] == other and tie[1] == one)


def tie_number(piece, one, other):
    """The number of the tie of two places, None for any two values between which there is none."""
    new = len(piece.letters)
    if not is_place(one, piece.mouth, new) or not is_place(other, piece.mouth, new):
        return None
    for number, tie in enumerate(piece.ties):
        if has_ends(tie, one, other):
            return number
    return None


class Garden:
    """A book that changes. What was before each deed is kept, so that the deed can be undone."""

    def __init__(self, book):
        self.book = book
        self.guards = ()
        self._past = ()

    def __len__(self):
        return len(self._past)

    def set_tie(self, kind, one, other, length):
        """Give the piece of a kind a tie between two places, or its tie there a length."""
        piece = self._piece_of(kind)
        number = tie_number(piece, one, other)
        ties = [tie for at, tie in enumerate(piece.ties) if at != number]
        self._set_piece(kind, Piece(piece.mouth, piece.letters, ties + [(one, other, length)], piece.buds))

    def cut_tie(self, kind, one, other):
        """Take the tie between two places out of the piece of a kind."""
        piece = self._piece_of(kind)
        number = tie_number(piece, one, other)
        if number is None:
            raise NoTie(kind, one, other)
        ties = [tie for at, tie in enumerate(piece.ties) if at != number]
        self._set_piece(kind, Piece(piece.mouth, piece.letters, ties, piece.buds))

    def set_bud(self, kind, at, bud):
        """Put a bud into the place of one, or behind all buds of the piece of a kind."""
        piece = self._piece_of(kind)
        if not is_within(at, 0, len(piece.buds)):
            raise NoBud(kind, at)
        buds = list(piece.buds[:at]) + [bud] + list(piece.buds[at + 1:])
        self._set_piece(kind, Piece(piece.mouth, piece.letters, piece.ties, buds))

    def drop_bud(self, kind):
        """Take the last bud out of the piece of a kind."""
        piece = self._piece_of(kind)
        if not piece.buds:
            raise NoBud(kind, 0)
        self._set_piece(kind, Piece(piece.mouth, piece.letters, piece.ties, piece.buds[:-1]))

    def set_letter(self, kind, at, letter):
        """Give a new place of the piece of a kind a letter, or a full stop for none."""
        piece = self._piece_of(kind)
        if not is_within(at, 0, len(piece.letters) - 1):
            raise NoPlace(at)
        check_letter(letter)
        letters = piece.letters[:at] + letter + piece.letters[at + 1:]
        self._set_piece(kind, Piece(piece.mouth, letters, piece.ties, piece.buds))

    def drop_kind(self, kind):
        """Take a kind out of the book."""
        self._piece_of(kind)
        pieces = self.book.plan.pieces
        self._change(Book(self.book.seed, {other: pieces[other] for other in pieces if other != kind}))

    def set_kind(self, kind, piece):
        """Give a kind, also a new one, a piece."""
        if not isinstance(kind, str):
            raise BadBook(kind)
        self._set_piece(kind, piece)

    def keep(self, guard):
        """Set a guard: from now on each deed is refused after which it would not hold."""
        if not is_guard(guard):
            raise BadGuard(guard)
        if self._number_of(guard) is not None:
            return
        if not holds(guard, self.book):
            raise Refused(guard)
        self._done(self.book, self.guards + (guard,))

    def free(self, guard):
        """Take a guard away."""
        number = self._number_of(guard)
        if number is None:
            raise Refused(guard)
        self._done(self.book, self.guards[:number] + self.guards[number + 1:])

    def undo(self):
        """Take the last deed back."""
        if not self._past:
            raise NothingToUndo()
        self.book, self.guards = self._past[-1]
        self._past = self._past[:-1]

    def trial(self, action):
        """What an action returns for this garden; then all is as before."""
        book = self.book
        guards = self.guards
        past = self._past
        try:
            return action(self)
        finally:
            self.book = book
            self.guards = guards
            self._past = past

    def attempt(self, action):
        """What an action returns for this garden; all is as before if it raises an error."""
        book = self.book
        guards = self.guards
        past = self._past
        done = None
        try:
            told = action(self)
            done = True
            return told
        finally:
            if done is None:
                self.book = book
                self.guards = guards
                self._past = past

    def _piece_of(self, kind):
        if not isinstance(kind, str) or kind not in self.book.plan.pieces:
            raise NoKind(kind)
        return self.book.plan.pieces[kind]

    def _number_of(self, guard):
        """The number of a guard that is set, None for any other value."""
        if not is_guard(guard):
            return None
        for number, kept in enumerate(self.guards):
            if are_same_guards(kept, guard):
                return number
        return None

    def _set_piece(self, kind, piece):
        pieces = {other: self.book.plan.pieces[other] for other in self.book.plan.pieces}
        pieces[kind] = piece
        self._change(Book(self.book.seed, pieces))

    def _change(self, book):
        for guard in self.guards:
            if not holds(guard, book):
                raise Refused(guard)
        self._done(book, self.guards)

    def _done(self, book, guards):
        self._past = self._past + ((self.book, self.guards),)
        self.book = book
        self.guards = guards
