"""Sights: the web as it is seen from a place, at all distances."""

from growwebs.books import Place, check_book
from growwebs.checks import is_within
from growwebs.distances import kinds_on, view_from
from growwebs.errors import BadNumber, BadWord, NoSuch, TooFar, TooLong, TooMany
from growwebs.far import far_distance
from growwebs.pieces import is_letter
from growwebs.rows import LONGEST_TUPLE, count_row
from growwebs.spheres import Rim, Sphere, index_in, name_in, names_in
from growwebs.stands import Numbering, met, told_stands
from growwebs.strands import entries_at
from growwebs.tallies import Tally, count_at, count_within
from growwebs.ways import name_of_place

FURTHEST = 1000


class Stand:
    """A kind and a part with gaps, and what is told of all strands that look like this."""

    def __init__(self, kind, part, gaps, own, arrows):
        self.kind = kind
        self.part = part
        self.gaps = gaps
        self.own = own
        self.arrows = arrows


def near_lengths(view, kinds):
    """For each depth of a view's row the pairs (number, distance) of the new places there."""
    near = []
    for depth, kind in enumerate(kinds):
        lengths = view.rows[depth][view.plan.pieces[kind].mouth:]
        near.append([(at, length) for at, length in enumerate(lengths) if length is not None])
    return near


def numbered_entries(view, kinds, numbering):
    """The list of the entries of a view's place, as (depth, bud, shift, number of the stand)."""
    entries = []
    for depth in range(len(kinds)):
        for bud, kind, part, lengths in entries_at(view, kinds, depth):
            entries.append((depth, bud) + met(numbering, kind, part, lengths))
    return entries


def reach_of(near, entries, stands):
    """The reach: how far off all has been seen that goes on as before from there."""
    greatest = [distance for row in near for _, distance in row]
    greatest.extend([time for stand in stands for _, time in stand.own])
    shifts = {}
    for _, _, shift, number in entries:
        shifts[number] = max(shift, shifts.get(number, 0))
    for stand in stands:
        for _, shift, number in stand.arrows:
            shifts[number] = max(shift, shifts.get(number, 0))
    return 1 + max(greatest) + sum([shifts[number] for number in shifts])


def counts_of(values):
    """For each value how often it stands in a list."""
    counts = {}
    for value in values:
        counts[value] = counts.get(value, 0) + 1
    return counts


def check_letter(letter):
    """Raise BadWord for a value that is no letter of a place."""
    if not is_letter(letter):
        raise BadWord(letter)


def check_distance(value):
    """Raise an error for a value that is no distance at which is counted."""
    if not is_within(value, 0, value):
        raise BadNumber(value)
    if value > FURTHEST:
        raise TooFar(value)


class Sight:
    """The web seen from a place: what is near it, and stands for all that is further off."""

    def __init__(self, place):
        if count_row(place.row) > LONGEST_TUPLE:
            raise TooLong(count_row(place.row))
        view = view_from(place)
        kinds = kinds_on(view.plan, view.row)
        near = near_lengths(view, kinds)
        numbering = Numbering()
        entries = numbered_entries(view, kinds, numbering)
        rows = [view.row[:depth] for depth in range(len(kinds))]
        told = told_stands(view.plan, numbering)
        self.origin = place
        self.near = tuple([(Place(place.book, rows[depth], number), distance)
                           for depth in range(len(kinds)) for number, distance in near[depth]])
        self.entries = tuple([(rows[depth], bud, shift, stand) for depth, bud, shift, stand in entries])
        self.stands = tuple([Stand(stand[0], stand[1], stand[2], own, arrows) for stand, own, arrows in told])
        self._reach = reach_of(near, entries, self.stands)
        self._kinds = kinds
        self._rim = Rim(view.row, near, by_depth(entries),
                        [len(view.plan.pieces[kind].buds) for kind in kinds])
        self._tallies = {}

    @property
    def reach(self):
        """How far off all has been seen that goes on as before from there."""
        return self._reach

    def at(self, n):
        """How many places are at distance n."""
        check_distance(n)
        return count_at(self._tally(None), n)

    def within(self, n):
        """How many places are at distance n or less."""
        check_distance(n)
        return count_within(self._tally(None), n)

    def lettered(self, letter, n):
        """How many places with a letter are at distance n."""
        check_letter(letter)
        check_distance(n)
        return count_at(self._tally(letter), n)

    def nth(self, n, k):
        """The place number k of those at distance n in web order."""
        check_distance(n)
        if not is_within(k, 0, k):
            raise BadNumber(k)
        name = name_in(self._sphere(n), k)
        if name is None:
            raise NoSuch(k)
        return Place(self.origin.book, name[0], name[1])

    def rank(self, place):
        """The pair (n, k) for which nth(n, k) is the place, None if it is in another region."""
        book = self.origin.book
        check_book(book, place)
        distance = far_distance(book, self.origin, place)
        if distance is None:
            return None
        if distance > FURTHEST:
            raise TooFar(distance)
        return distance, index_in(self._sphere(distance), name_of_place(place))

    def sphere(self, n, *, most=2000):
        """The list of all places at distance n in web order."""
        check_distance(n)
        if count_at(self._tally(None), n) > most:
            raise TooMany(most)
        return [Place(self.origin.book, row, number) for row, number in names_in(self._sphere(n))]

    def same_numbers(self, other):
        """None if as many places are at each distance here and there, else the first where not."""
        far = self.reach + other.reach
        if far > FURTHEST:
            raise TooFar(far)
        for distance in range(far):
            if self.at(distance) != other.at(distance):
                return distance
        return None

    def _sphere(self, distance):
        return Sphere(self._rim, self.stands, self._tally(None), distance)

    def _tally(self, letter):
        if letter not in self._tallies:
            self._tallies[letter] = self._counted_by(letter)
        return self._tallies[letter]

    def _counted_by(self, letter):
        """The Tally of the places with a letter, of all for None."""
        near = []
        for depth, kind in enumerate(self._kinds):
            near.extend(self._with_letter(kind, self._rim.near[depth], letter))
        own = [counts_of(self._with_letter(stand.kind, stand.own, letter)) for stand in self.stands]
        entries = counts_of([(shift, stand) for _, _, shift, stand in self.entries])
        return Tally(counts_of(near), entries, own, [stand.arrows for stand in self.stands])

    def _with_letter(self, kind, pairs, letter):
        letters = self.origin.book.plan.pieces[kind].letters
        return [length for at, length in pairs if letter is None or letters[at] == letter]


def by_depth(entries):
    """For each depth and bud the pairs (stand, shift) of the entries there."""
    found = {}
    for depth, bud, shift, stand in entries:
        found[(depth, bud)] = found.get((depth, bud), []) + [(stand, shift)]
    return found
