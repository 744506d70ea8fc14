"""What lies on every way from one place to another one: places and ties."""

from growwebs.books import Place, check_book
from growwebs.chains import BRIDGES, CUTS, Site, index_of, name_at
from growwebs.checks import is_pair, is_within
from growwebs.errors import NoSuch, NotJoined, NotOnAll
from growwebs.gadgets import chain_of, gadget_tables, net_of_patch
from growwebs.nets import on_all_ways
from growwebs.patches import Patch, lines_on, row_of, spot_in
from growwebs.rows import count_row
from growwebs.ways import name_of_place

# Below its own rows a chain goes down only to what has another kind or other letters each time.
MOST_BELOW = 100


def reached(lines, start, goal, barred):
    """Whether some lines lead from start to goal through no barred place."""
    if start in barred or goal in barred:
        return False
    met = {start: True}
    waiting = [start]
    while waiting:
        for other, _ in lines[waiting.pop()]:
            if other not in met and other not in barred:
                met[other] = True
                waiting.append(other)
    return goal in met


def joined(one, other, without=()):
    """Whether a way leads from one to other through none of some places."""
    check_book(one.book, other)
    for place in without:
        check_book(one.book, place)
    names = [name_of_place(place) for place in [one, other] + list(without)]
    patch = Patch(one.book.plan, [row for row, _ in names])
    spots = [spot_in(patch, row, number) for row, number in names]
    barred = {spot: True for spot in spots[2:]}
    return reached(lines_on(patch), spots[0], spots[1], barred)


def is_cut(place, one, other):
    """Whether each way from one to other, and there is one, comes through the place between."""
    check_book(place.book, one)
    check_book(place.book, other)
    if place == one or place == other or not joined(one, other):
        return False
    return not joined(one, other, [place])


class OnAll:
    """What lies on all ways from one place to another one: a chain and where it is in the web."""

    def __init__(self, one, other):
        check_book(one.book, other)
        plan = one.book.plan
        begin, end = name_of_place(one), name_of_place(other)
        patch = Patch(plan, [begin[0], end[0]])
        gadgets = gadget_tables(plan)
        net = net_of_patch(patch, gadgets)
        ends = [spot_in(patch, row, number) for row, number in (begin, end)]
        told = on_all_ways(net, ends[0], ends[1])
        if told is None:
            raise NotJoined()
        self.book = one.book
        self.most = max(len(begin[0]), len(end[0])) + MOST_BELOW
        self.site = Site(plan, patch.kinds, [row_of(patch, at) for at in range(len(patch.kinds))])
        self.chain = (0, 0, (), ())
        if begin != end:
            self.chain = chain_of(net, told[0], told[1], patch.kinds, plan, gadgets)


def told_at(on_all, number, what):
    """What is told of the cut or bridge with a number: a name, or two."""
    if not is_within(number, 0, on_all.chain[what] - 1):
        raise NoSuch(number)
    return name_at(on_all.site, on_all.chain, number, what)


def near_name(on_all, value):
    """The name of a value that is a place of the book not too far down, or None."""
    if not isinstance(value, Place) or count_row(value.row) > on_all.most:
        return None
    if value.book != on_all.book:
        return None
    return name_of_place(value)


class Cuts:
    """All places between two places that are on every way from the one to the other."""

    def __init__(self, one, other):
        self._on_all = OnAll(one, other)
        self.one = one
        self.other = other

    def total(self):
        """How many there are."""
        return self._on_all.chain[CUTS]

    def cut_at(self, number):
        """The one with just so many of them ahead of it."""
        row, spot = told_at(self._on_all, number, CUTS)
        return Place(self.one.book, row, spot)

    def number_of(self, place):
        """How many of them are ahead of one of them."""
        name = near_name(self._on_all, place)
        found = None
        if name is not None:
            found = index_of(self._on_all.site, self._on_all.chain, name, CUTS)
        if found is None:
            raise NotOnAll(place)
        return found


class Bridges:
    """All ties that are on every way from one place to another one."""

    def __init__(self, one, other):
        self._on_all = OnAll(one, other)
        self.one = one
        self.other = other

    def total(self):
        """How many there are."""
        return self._on_all.chain[BRIDGES]

    def bridge_at(self, number):
        """The pair of places of the tie with just so many of them ahead of it."""
        pair = told_at(self._on_all, number, BRIDGES)
        return tuple([Place(self.one.book, row, spot) for row, spot in pair])

    def number_of(self, pair):
        """How many of them are ahead of one of them, told by its two places."""
        names = [None]
        if is_pair(pair):
            names = [near_name(self._on_all, place) for place in pair]
        found = None
        if None not in names:
            found = index_of(self._on_all.site, self._on_all.chain, tuple(names), BRIDGES)
        if found is None:
            raise NotOnAll(pair)
        return found
