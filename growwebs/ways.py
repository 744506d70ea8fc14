"""All shortest ways from one place to another one, without listing them."""

from growwebs.books import Place, check_book
from growwebs.checks import is_list, is_within
from growwebs.errors import NoSuch, NotJoined, NotShortest, TooMany
from growwebs.lengths import shortest_from
from growwebs.patches import Patch, lines_on, spot_in
from growwebs.rows import count_row, written_out
from growwebs.scouts import Scout, steps_at, stretch_at

MOST_ON_WAY = 2000


def name_of_place(place):
    """The name of a place: its row, written out, and its number."""
    return (written_out(place.row), place.number)


def is_named(value, book, name):
    """Whether any value is the place of the book with this name."""
    if not isinstance(value, Place) or value.number != name[1]:
        return False
    # Only a row that is as long as the one of the name is written out: others may be far longer.
    if count_row(value.row) != len(name[0]) or written_out(value.row) != name[0]:
        return False
    return value.book == book


class Ways:
    """All shortest ways from one place to another one, in the order of the names on them."""

    def __init__(self, one, other):
        check_book(one.book, other)
        self.one = one
        self.other = other
        self._begin = name_of_place(one)
        self._end = name_of_place(other)
        self._patch = Patch(one.book.plan, [self._begin[0], self._end[0]])
        lines = lines_on(self._patch)
        self._there = shortest_from(lines, spot_in(self._patch, *self._begin), ())
        self._back = shortest_from(lines, spot_in(self._patch, *self._end), ())
        self._whole = self._back[spot_in(self._patch, *self._begin)]
        if self._whole is None:
            raise NotJoined()
        self.length = self._whole[0]

    def total(self):
        """How many shortest ways there are."""
        return self._whole[1]

    def fewest_ties(self):
        """The least number of ties of one of them."""
        return self._whole[2]

    def through(self, place):
        """How many of them come through a place."""
        check_book(self.one.book, place)
        row, number = name_of_place(place)
        there = stretch_at(Scout(self._patch, self._there), row, number)
        back = stretch_at(Scout(self._patch, self._back), row, number)
        if there is None or back is None or there[0] + back[0] != self.length:
            return 0
        return there[1] * back[1]

    def way_at(self, number):
        """The list of the places of the way with just so many lesser ones."""
        if not is_within(number, 0, self.total() - 1):
            raise NoSuch(number)
        scout = Scout(self._patch, self._back)
        names = [self._begin]
        while names[-1] != self._end:
            if len(names) == MOST_ON_WAY:
                raise TooMany(MOST_ON_WAY)
            row, spot = names[-1]
            for name, many in steps_at(scout, row, spot):
                if number < many:
                    names.append(name)
                    break
                number = number - many
        return [Place(self.one.book, row, spot) for row, spot in names]

    def number_of(self, way):
        """The number of a way, a list of places."""
        book = self.one.book
        if not is_list(way) or len(way) == 0 or not is_named(way[0], book, self._begin):
            raise NotShortest(way)
        scout = Scout(self._patch, self._back)
        name = self._begin
        lesser = 0
        for place in way[1:]:
            steps = steps_at(scout, name[0], name[1])
            right = [at for at in range(len(steps)) if is_named(place, book, steps[at][0])]
            if not right:
                raise NotShortest(way)
            name = steps[right[0]][0]
            lesser = lesser + sum([many for _, many in steps[:right[0]]])
        if name != self._end:
            raise NotShortest(way)
        return lesser
