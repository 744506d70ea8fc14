"""Marks: letters of places that can be given anew, and what is nearest with a letter."""

from growwebs.books import Place, check_book
from growwebs.distances import view_from
from growwebs.errors import NothingToUndo, TooMany
from growwebs.growing import piece_counts
from growwebs.nearest import nearest_name
from growwebs.sights import check_letter
from growwebs.walks import walk
from growwebs.ways import name_of_place

MOST_MARKS = 50


def book_letter(plan, name):
    """The letter that the book tells for the place with a name."""
    row, number = name
    return plan.pieces[walk(plan, row)[0]].letters[number]


def count_lettered(plan, letter):
    """How many places of the web have the letter in the book, None for endlessly many."""
    counts = piece_counts(plan)
    total = 0
    for kind in counts:
        own = plan.pieces[kind].letters.count(letter)
        if own > 0:
            if counts[kind] is None:
                return None
            total = total + own * counts[kind]
    return total


class Marks:
    """Letters for all places of a web, at first those of the book."""

    def __init__(self, book):
        self.book = book
        self._given = {}
        self._past = []

    def __getitem__(self, place):
        check_book(self.book, place)
        return self._letter_of(name_of_place(place))

    def __setitem__(self, place, letter):
        check_book(self.book, place)
        check_letter(letter)
        name = name_of_place(place)
        old = self._letter_of(name)
        if name not in self._given and letter != old and len(self._given) == MOST_MARKS:
            raise TooMany(MOST_MARKS)
        self._past.append((name, old))
        self._give(name, letter)

    def __contains__(self, place):
        check_book(self.book, place)
        return name_of_place(place) in self._given

    def __iter__(self):
        raise TypeError("marks are not iterated over")

    def __len__(self):
        return len(self._given)

    def __eq__(self, other):
        return isinstance(other, Marks) and self.book == other.book and self._given == other._given

    def listed(self):
        """The list of (place, letter) of the places whose letter is not that of the book."""
        return [(Place(self.book, row, number), self._given[(row, number)])
                for row, number in sorted(self._given)]

    def undo(self):
        """Take back the last giving that has not been taken back."""
        if not self._past:
            raise NothingToUndo()
        name, letter = self._past.pop()
        self._give(name, letter)

    def undoable(self):
        """How many givings can be taken back."""
        return len(self._past)

    def nearest(self, place, letter):
        """The triple (distance, how many, first place) of what is nearest with a letter, or None."""
        check_book(self.book, place)
        check_letter(letter)
        told = nearest_name(view_from(place), letter, self._given)
        if told is None:
            return None
        distance, many, name = told
        return distance, many, Place(self.book, name[0], name[1])

    def total(self, letter):
        """How many places of the web have a letter, None for endlessly many."""
        check_letter(letter)
        total = count_lettered(self.book.plan, letter)
        if total is None:
            return None
        added = [name for name in self._given if self._given[name] == letter]
        taken = [name for name in self._given if book_letter(self.book.plan, name) == letter]
        return total + len(added) - len(taken)

    def _letter_of(self, name):
        if name in self._given:
            return self._given[name]
        return book_letter(self.book.plan, name)

    def _give(self, name, letter):
        if name in self._given:
            del self._given[name]
        if letter != book_letter(self.book.plan, name):
            self._given[name] = letter
