"""Leads: whether, how and in how many ways the places of a web can be coloured by a rule."""

from growwebs.books import Place, check_book
from growwebs.checks import is_within
from growwebs.choices import Reckoning, first_failing, keys_at, rows_to
from growwebs.closed import key_at, keys_with_rows, met_values
from growwebs.colourings import colours_at, is_right, options_of, words_of
from growwebs.errors import BadNumber, BadRule, Endless, NoKind, OtherBook, TooFar, TooLong
from growwebs.leadcounts import count_leads, count_to_depth, free_keys
from growwebs.leadpairs import Chances, ascending_signs, colours_of_new, pairs_told
from growwebs.levels import sum_at_depth
from growwebs.rings import without_dead_ends
from growwebs.rows import LONGEST_TUPLE, count_row
from growwebs.rules import Rule

GREATEST_MODULO = 10 ** 9
FARTHEST_COUNT = 200
FARTHEST_LEVEL = 2000
COLOURS = "abcd"


def all_options(plan, rule):
    """For each key, of all colourings of all mouths, its options."""
    options = {}
    for kind in plan.pieces:
        for mouth in words_of(rule.colours, plan.pieces[kind].mouth):
            options[(kind, mouth)] = options_of(plan, rule, (kind, mouth))
    return options


def check_modulo(modulo):
    """Raise BadNumber for a value that is no number by which is counted."""
    if not is_within(modulo, 1, GREATEST_MODULO):
        raise BadNumber(modulo)


class Leads:
    """All leads of the web of a book for a rule."""

    def __init__(self, book, rule):
        self.book = book
        self.rule = rule
        self._reckoning = Reckoning(all_options(book.plan, rule), (book.seed, ""))
        self._fails_at = first_failing(self._reckoning)
        self._free = free_keys(self._reckoning.alive)
        self._endless = len(without_dead_ends(self._free)) > 0
        self._chances = Chances(book.plan, rule, self._reckoning)

    @property
    def exists(self):
        """Whether the web has a lead."""
        return self._fails_at is None

    @property
    def is_endless(self):
        """Whether there are endlessly many leads."""
        return self._endless

    def fails_at(self):
        """None, or the least depth to which the web cannot be coloured."""
        return self._fails_at

    def may(self, kind):
        """The ascending tuple of the colourings of a kind's mouth that can be gone on."""
        if not isinstance(kind, str) or kind not in self.book.plan.pieces:
            raise NoKind(kind)
        words = words_of(self.rule.colours, self.book.plan.pieces[kind].mouth)
        return tuple([word for word in words if (kind, word) not in self._reckoning.rounds])

    def lowest(self):
        """The Lead in which each piece has the first colours that can be gone on, or None."""
        if self._fails_at is not None:
            return None
        alive = self._reckoning.alive
        table = {key: min([option[3] for option in alive[key]]) for key in alive}
        return Lead(self.book, self.rule, table)

    def bar(self):
        """None, or rows of pieces that cannot be coloured together."""
        if self._fails_at is None:
            return None
        return rows_to(self.book.plan, self._fails_at)

    def how_many(self, modulo):
        """How many leads there are, modulo a number."""
        check_modulo(modulo)
        if self._endless:
            raise Endless()
        if self._fails_at is not None:
            return 0
        return count_leads(self._reckoning.alive, self._free, self._reckoning.start, modulo)

    def of_depth(self, depth, modulo):
        """In how many ways the web of a depth can be coloured, modulo a number."""
        if not is_within(depth, 0, depth):
            raise BadNumber(depth)
        check_modulo(modulo)
        if depth > FARTHEST_COUNT:
            raise TooFar(depth)
        return count_to_depth(self._reckoning.options, self._reckoning.start, depth, modulo)

    def colours_of(self, place):
        """The string of the colours that a place has in some lead."""
        check_book(self.book, place)
        if self._fails_at is not None:
            return ""
        found = colours_of_new(self._chances, keys_at(self._reckoning, place.row), place.number)
        return ascending_signs([found[key] for key in found])

    def pairs_of(self, one, other):
        """The ascending tuple of the pairs of colours that two places have in some lead at once."""
        for place in (one, other):
            check_book(self.book, place)
            if count_row(place.row) > LONGEST_TUPLE:
                raise TooLong(count_row(place.row))
        if self._fails_at is not None:
            return ()
        return pairs_told(self._chances, (one.row, one.number), (other.row, other.number))


class Lead:
    """The lead that a closed table tells."""

    def __init__(self, book, rule, table):
        self.book = book
        self.rule = rule
        told = met_values(book.seed, table, lambda key, value: settled_colours(book.plan, rule, key, value))
        self.table = told[0]
        self._belows = told[1]

    def __eq__(self, other):
        if not isinstance(other, Lead):
            return False
        return self.book == other.book and self._apart(other) is None

    def colour(self, place):
        """The colour of a place."""
        check_book(self.book, place)
        key = key_at(self._belows, (self.book.seed, ""), place.row)
        return self.table[key][place.number]

    def coloured(self, colour, depth):
        """How many places with rows of just so many numbers have a colour."""
        if not isinstance(colour, str) or len(colour) != 1 or colour not in self.rule.colours:
            raise BadRule(colour)
        if not is_within(depth, 0, depth):
            raise BadNumber(depth)
        if depth > FARTHEST_LEVEL:
            raise TooFar(depth)
        numbers = {key: number for number, key in enumerate(list(self._belows))}
        belows = [[numbers[below] for below in self._belows[key]] for key in self._belows]
        return sum_at_depth(belows, [self.table[key].count(colour) for key in self._belows], depth)

    def first_apart(self, other):
        """The first place, shorter first, to which two leads give unlike colours, or None."""
        if self.book != other.book:
            raise OtherBook()
        name = self._apart(other)
        return None if name is None else Place(self.book, name[0], name[1])

    def _apart(self, other):
        """The name of the first place with unlike colours in two leads of equal books, or None."""
        # What has another colour further up comes first: so both have one key at each row looked at.
        for row, key in keys_with_rows(self._belows, (self.book.seed, "")):
            for number, colour in enumerate(self.table[key]):
                if colour != other.table[key][number]:
                    return row, number
        return None


def settled_colours(plan, rule, key, value):
    """The pair (value, keys of the buds) for a value of a table that is right, else None."""
    kind, mouth = key
    piece = plan.pieces[kind]
    if not is_right(piece, rule, mouth, value):
        return None
    return value, tuple([(bud, colours_at(piece, mouth + value, row)) for bud, row in piece.buds])


def fewest_colours(book):
    """How many colours are enough, if no two places with a tie may have the same one; or None."""
    for many in range(1, len(COLOURS) + 1):
        colours = COLOURS[:many]
        unlike = [one + other for one in colours for other in colours if one < other]
        if Leads(book, Rule(colours, unlike)).exists:
            return many
    return None
