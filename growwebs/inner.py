"""What grows from the kinds of a book, without end, and the ways inside of it."""

from growwebs.errors import NoKind, NoMouth
from growwebs.lengths import length_tables, stretch_tables
from growwebs.pieces import MOUTH
from growwebs.strands import part_tables


class Inside:
    """Tells of each kind of a book what ways there are in what grows from it."""

    def __init__(self, book):
        self.book = book
        self._stretches = stretch_tables(book.plan)
        self._lengths = length_tables(book.plan)
        self._parts = part_tables(book.plan)

    def least(self, kind, one, other):
        """The least length of the ways between two mouth places, None if there is none."""
        self._check(kind, [one, other])
        return self._lengths[kind][MOUTH.index(one)][MOUTH.index(other)]

    def stretch(self, kind, one, other):
        """The least length, and the number, of such ways that meet no other mouth place."""
        self._check(kind, [one, other])
        if one == other:
            return (0, 1)
        first, second = sorted([MOUTH.index(one), MOUTH.index(other)])
        stretch = self._stretches[kind][(first, second)]
        return None if stretch is None else stretch[:2]

    def together(self, kind):
        """The mouth letters in groups that are joined by ways within."""
        self._check(kind, [])
        return list(self._parts[kind])

    def _check(self, kind, letters):
        pieces = self.book.plan.pieces
        if not isinstance(kind, str) or kind not in pieces:
            raise NoKind(kind)
        for letter in letters:
            if not isinstance(letter, str) or letter not in MOUTH[:pieces[kind].mouth]:
                raise NoMouth(kind, letter)
