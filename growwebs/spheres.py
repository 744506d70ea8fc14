"""Spheres: the places at one distance from a place, in web order.

A node of the walk through a sphere is a piece: a pair (row, pairs), where pairs has (stand, how far
off it begins) for all that is seen there; None for pairs stands for a piece on the place's own row.
"""

from growwebs.tallies import stand_count


class Sphere:
    """All at one distance: what is near, what enters where, and how much is from each depth on."""

    def __init__(self, rim, stands, tally, distance):
        self.rim = rim
        self.stands = stands
        self.tally = tally
        self.distance = distance
        self.onward = counts_behind(self)


class Rim:
    """The row of a place; the new places near it, by depth; and entries, by depth and bud."""

    def __init__(self, row, near, entries, buds):
        self.row = row
        self.near = near
        self.entries = entries
        self.buds = buds


def counts_behind(sphere):
    """For each depth how many places of the sphere are new on the row from there on, or beside it."""
    rim = sphere.rim
    counts = [0]
    for depth in range(len(rim.row), -1, -1):
        total = counts[-1] + len(own_numbers(sphere, (rim.row[:depth], None)))
        for number in range(rim.buds[depth]):
            total = total + count_pairs(sphere, rim.entries.get((depth, number), []))
        counts.append(total)
    return counts[::-1]


def count_pairs(sphere, pairs):
    """How many places of the sphere are below the stands of some pairs."""
    distance = sphere.distance
    return sum([stand_count(sphere.tally, stand, distance - begun) for stand, begun in pairs])


def count_node(sphere, node):
    """How many places of the sphere are in a piece and below it."""
    row, pairs = node
    if pairs is None:
        return sphere.onward[len(row)]
    return count_pairs(sphere, pairs)


def own_numbers(sphere, node):
    """The ascending numbers of the new places of a piece that are in the sphere."""
    row, pairs = node
    if pairs is None:
        near = sphere.rim.near[len(row)]
        return [number for number, distance in near if distance == sphere.distance]
    found = []
    for stand, begun in pairs:
        own = sphere.stands[stand].own
        found.extend([number for number, time in own if time == sphere.distance - begun])
    return sorted(found)


def nodes_on_row(sphere, row):
    """The nodes at the buds of a piece on the place's own row."""
    rim = sphere.rim
    depth = len(row)
    nodes = []
    for number in range(rim.buds[depth]):
        ahead = depth < len(rim.row) and rim.row[depth] == number
        pairs = None if ahead else rim.entries.get((depth, number), [])
        nodes.append((row + (number,), pairs))
    return nodes


def nodes_below(sphere, node):
    """The nodes at the buds of a piece, in their order; those where nothing is seen may be left out."""
    row, pairs = node
    if pairs is None:
        return nodes_on_row(sphere, row)
    found = {}
    for stand, begun in pairs:
        for bud, shift, number in sphere.stands[stand].arrows:
            found[bud] = found.get(bud, []) + [(number, begun + shift)]
    return [(row + (bud,), found[bud]) for bud in sorted(found)]


def name_in(sphere, index):
    """The name of the place with an index in the sphere, None if it has not so many."""
    node = ((), None)
    if index >= count_node(sphere, node):
        return None
    while True:
        numbers = own_numbers(sphere, node)
        if index < len(numbers):
            return node[0], numbers[index]
        index = index - len(numbers)
        for below in nodes_below(sphere, node):
            many = count_node(sphere, below)
            if index < many:
                node = below
                break
            index = index - many


def index_in(sphere, name):
    """The index of the name of one of the places of the sphere."""
    row, number = name
    node = ((), None)
    index = 0
    while node[0] != row:
        index = index + len(own_numbers(sphere, node))
        bud = row[len(node[0])]
        for below in nodes_below(sphere, node):
            if below[0][-1] == bud:
                node = below
                break
            index = index + count_node(sphere, below)
    return index + own_numbers(sphere, node).index(number)


def names_in(sphere):
    """The names of all places of the sphere, ascending."""
    names = []
    waiting = [((), None)]
    while waiting:
        node = waiting.pop()
        if count_node(sphere, node) > 0:
            names.extend([(node[0], number) for number in own_numbers(sphere, node)])
            waiting.extend(nodes_below(sphere, node)[::-1])
    return names
