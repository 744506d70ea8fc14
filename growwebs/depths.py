"""How much there is in the webs of all depths."""

from growwebs.checks import is_within
from growwebs.errors import BadNumber, BadWord, NoKind, TooFar, TooMany
from growwebs.leading import all_rows, all_turns, longest_chains, rows_from
from growwebs.levels import row_product, squared
from growwebs.masks import joined_parts, mask_of, plain_part
from growwebs.powers import turned_table
from growwebs.times import Parts, Times

GREATEST_DEPTH = 2000
FARTHEST_DEPTH = (10 ** 60) ** 5
GREATEST_MODULUS = 10 ** 9
GREATEST_WISH = 10 ** 30
MOST_STATES = 4096
# So many doublings lead far beyond the greatest wish, if only one more comes every few depths.
MOST_DOUBLINGS = 110


def weight_of_piece(what, piece):
    """How much of something a piece has."""
    if what == "places":
        return len(piece.letters)
    if what == "ties":
        return len(piece.ties)
    if what == "pieces":
        return 1
    return sum([length for _, _, length in piece.ties])


def check_what(what):
    """Raise BadWord for a value that is none of the four words."""
    if not isinstance(what, str) or what not in ("places", "ties", "pieces", "lengths"):
        raise BadWord(what)


def check_within(value, least, most):
    """Raise BadNumber for a value that is no integer from least to most."""
    if not is_within(value, least, most):
        raise BadNumber(value)


def check_depth(value):
    """Raise an error for a value that is no depth to which all is told exactly."""
    if not is_within(value, 0, value):
        raise BadNumber(value)
    if value > GREATEST_DEPTH:
        raise TooFar(GREATEST_DEPTH)


def squared_within(table, held):
    """The product of a square table with itself, each entry held within bounds."""
    return [[held(entry) for entry in row] for row in squared(table)]


class Depths:
    """The numbers of places, ties and pieces, and the sums of lengths, in the webs of all depths."""

    def __init__(self, book):
        self.book = book
        self._pieces = book.plan.pieces
        lines = {}
        for kind in self._pieces:
            lines[kind] = [(at, bud[0]) for at, bud in enumerate(self._pieces[kind].buds)]
        self._kinds = list(rows_from(lines, book.plan.seed))
        self._lines = {kind: lines[kind] for kind in self._kinds}

    def exact(self, what, number):
        """How much of something there is in the web of a depth."""
        check_what(what)
        check_depth(number)
        return self._added(self._weights(what), number)

    def pieces_of(self, kind, number):
        """How many pieces of a kind there are in the web of a depth."""
        if not isinstance(kind, str) or kind not in self._pieces:
            raise NoKind(kind)
        check_depth(number)
        return self._added([1 if met == kind else 0 for met in self._kinds], number)

    def modulo(self, what, number, modulus):
        """The rest by a modulus of how much of something there is in the web of a depth."""
        check_what(what)
        check_within(number, 0, FARTHEST_DEPTH)
        check_within(modulus, 1, GREATEST_MODULUS)
        return total_modulo(self._table(what), number, modulus)

    def least_depth(self, what, wish):
        """The least depth at which there is at least a wished number of something, or None."""
        check_what(what)
        check_within(wish, 0, GREATEST_WISH)
        return depth_with(self._table(what), wish)

    def spread(self):
        """How the numbers of places grow with the depth: as a power, more, or not without end."""
        rows = all_rows(self._lines)
        turns = all_turns(self._lines, rows)
        if not turns:
            return ("ends", self._greatest_depth())
        for kind in turns:
            inside = [below for _, below in self._lines[kind] if kind in rows[below]]
            if len(inside) > 1:
                return ("more",)
        chains = longest_chains(rows, turns)
        return ("power", max([len(chains[kind]) for kind in chains]))

    def when(self, what, modulus, rest):
        """The Times of all depths at which the number has a rest by a modulus."""
        check_what(what)
        check_within(modulus, 2, MOST_STATES)
        check_within(rest, 0, modulus - 1)
        states = 1
        for _ in self._kinds:
            states = states * modulus
        if states > MOST_STATES:
            raise TooMany(MOST_STATES)
        return self._depths_with(self._weights(what), modulus, rest)

    def _weights(self, what):
        return [weight_of_piece(what, self._pieces[kind]) for kind in self._kinds]

    def _first(self):
        return [1] + [0 for _ in self._kinds[1:]]

    def _below(self, level):
        """How many pieces of each kind there are one deeper."""
        many = {kind: 0 for kind in self._kinds}
        for at, kind in enumerate(self._kinds):
            for _, below in self._lines[kind]:
                many[below] = many[below] + level[at]
        return [many[kind] for kind in self._kinds]

    def _added(self, weights, number):
        """The sum of weights of the pieces in the web of a depth."""
        level = self._first()
        total = 0
        for _ in range(number + 1):
            total = total + sum([many * weight for many, weight in zip(level, weights)])
            level = self._below(level)
        return total

    def _table(self, what):
        """The table that leads from the numbers of pieces at a depth, and the sum ahead of it, on."""
        many = len(self._kinds)
        table = [[0 for _ in range(many + 1)] for _ in range(many)]
        for at, kind in enumerate(self._kinds):
            for _, below in self._lines[kind]:
                to = self._kinds.index(below)
                table[at][to] = table[at][to] + 1
            table[at][many] = weight_of_piece(what, self._pieces[kind])
        return table + [[0 for _ in range(many)] + [1]]

    def _greatest_depth(self):
        depth = -1
        level = self._first()
        while any(level):
            level = [min(many, 1) for many in self._below(level)]
            depth = depth + 1
        return depth

    def _depths_with(self, weights, modulus, rest):
        """The Times of the depths whose sum has a rest; depths are gone through till they go round."""
        level = self._first()
        total = 0
        seen = {}
        holds = []
        while True:
            total = (total + sum([many * weight for many, weight in zip(level, weights)])) % modulus
            state = (tuple(level), total)
            if state in seen:
                return times_of_round(holds, seen[state])
            seen[state] = len(holds)
            holds.append(total == rest)
            level = [many % modulus for many in self._below(level)]


def times_of_round(holds, begun):
    """The Times of the indexes with True of a list that goes round from an index on."""
    around = len(holds) - begun
    parts = [plain_part(begun, None, around, mask_of(holds[begun:]))]
    if begun > 0:
        parts = [plain_part(0, begun, begun, mask_of(holds[:begun]))] + parts
    return Times(1, Parts(joined_parts(parts), (around,)))


def total_modulo(table, number, modulus):
    """The rest of the sum at a depth: the first row of a power of the table tells it last."""
    row = [1] + [0 for _ in table[1:]]
    steps = number + 1
    while steps > 0:
        if steps % 2 == 1:
            row = [entry % modulus for entry in row_product(row, turned_table(table))]
        table = squared_within(table, lambda entry: entry % modulus)
        steps = steps // 2
    return row[-1]


def depth_with(table, wish):
    """The least depth at which the sum is at least the wish, or None."""
    if wish == 0:
        return 0
    doubled = [table]
    # Entries above the wish are as good as the wish itself: all are at least 0.
    while len(doubled) < MOST_DOUBLINGS:
        doubled.append(squared_within(doubled[-1], lambda entry: min(entry, wish)))
    row = [1] + [0 for _ in table[1:]]
    steps = 0
    for power in range(MOST_DOUBLINGS - 1, -1, -1):
        table = doubled[power]
        new = row_product(row, turned_table(table))
        if new[-1] < wish:
            row = [min(entry, wish) for entry in new]
            steps = steps + (1 << power)
    # So many steps tell less, one more enough; the sum at a depth is told by one step more.
    return None if steps == (1 << MOST_DOUBLINGS) - 1 else steps
