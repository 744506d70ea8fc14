"""Chains: what lies on all ways between two places, counted and found without listing it.

Chain is told in gadgets.py. A Site says where the pieces of the net of a chain are in the web.
"""

from growwebs.gadgets import gadget_tables, weight_of
from growwebs.walks import name_of, names_of_mouth

CUTS = 0
BRIDGES = 1


class Site:
    """The kinds and the rows of the pieces of a net."""

    def __init__(self, plan, kinds, rows):
        self.plan = plan
        self.gadgets = gadget_tables(plan)
        self.kinds = kinds
        self.rows = rows


def site_below(site, at, number):
    """The Site of the piece at a bud of a piece."""
    kind = site.plan.pieces[site.kinds[at]].buds[number][0]
    return Site(site.plan, [kind], [site.rows[at] + (number,)])


def chain_below(site, item):
    """The chain of a link of the gadget of a bud."""
    at, number, index = item
    kind = site.plan.pieces[site.kinds[at]].buds[number][0]
    return site.gadgets[kind][1][index][2]


def name_of_node(site, node):
    """The name of the place that a node stands for."""
    at, number, index = node
    while number is not None:
        site = site_below(site, at, number)
        at, number, index = site.gadgets[site.kinds[0]][0][index]
    return (site.rows[at], index)


def names_of_tie(site, item, forward):
    """The pair of the names of the places of a tie, in the direction in which it is gone."""
    at, _, number = item
    row = site.rows[at]
    names = names_of_mouth(site.plan, row)
    one, other, _ = site.plan.pieces[site.kinds[at]].ties[number]
    pair = (name_of(row, names, one), name_of(row, names, other))
    return pair if forward else (pair[1], pair[0])


def weight_in(site, step, what):
    """How many cuts or bridges are within a step of a chain."""
    item = None if step is None else step[0]
    return weight_of(item, site.kinds, site.plan, site.gadgets)[what]


def turned_index(index, many, forward):
    """The index of the same one of many, counted from the other end if not forward."""
    return index if forward else many - 1 - index


def name_at(site, chain, index, what):
    """The name of the cut, or the pair of names of the bridge, with an index in a chain."""
    _, _, inner, steps = chain
    for at, step in enumerate(steps):
        many = weight_in(site, step, what)
        if index < many:
            item, forward = step
            if item[1] is None:
                return names_of_tie(site, item, forward)
            below = site_below(site, item[0], item[1])
            index = turned_index(index, many, forward)
            found = name_at(below, chain_below(site, item), index, what)
            return found if forward or what == CUTS else (found[1], found[0])
        index = index - many
        if what == CUTS and at < len(inner):
            if index == 0:
                return name_of_node(site, inner[at])
            index = index - 1
    return None


def is_below(name, row):
    """Whether a place is new in what grows at a row."""
    return name[0][:len(row)] == row


def index_within(site, step, told, what):
    """The index within a step of a chain of a cut or bridge, None if it is not there."""
    item, forward = step
    if item[1] is None:
        return 0 if names_of_tie(site, item, forward) == told else None
    below = site_below(site, item[0], item[1])
    ends = [told] if what == CUTS else list(told)
    if not any([is_below(name, below.rows[0]) for name in ends]):
        return None
    if what == BRIDGES and not forward:
        told = (told[1], told[0])
    found = index_of(below, chain_below(site, item), told, what)
    if found is None:
        return None
    return turned_index(found, weight_in(site, step, what), forward)


def index_of(site, chain, told, what):
    """The index in a chain of a cut, told by its name, or of a bridge, told by two; or None."""
    _, _, inner, steps = chain
    passed = 0
    for at, step in enumerate(steps):
        many = weight_in(site, step, what)
        if many > 0:
            found = index_within(site, step, told, what)
            if found is not None:
                return passed + found
        passed = passed + many
        if what == CUTS and at < len(inner):
            if name_of_node(site, inner[at]) == told:
                return passed
            passed = passed + 1
    return None
