"""Tables of lengths, lists of lists, in which sums stand for products and the least for sums.

A table of at most three rows tells the steps of walks among at most three nodes. A walk that
comes through a ring of them can go around this ring once more; and of a shortest walk all but
MOST_PLAIN steps can be made rounds of one ring, the best one among its nodes: to come to each of
its nodes and on to the end takes at most six steps, and of the rings that are left then any three
have some whose steps can be exchanged for whole rounds of the best one.
"""

from growwebs.curves import curve_of
from growwebs.nones import lesser_of, sum_of
from growwebs.telling import TURN, first_turn

MOST_PLAIN = 12


def meeting(row, column):
    """The least sum of the entries with one index."""
    best = None
    for one, other in zip(row, column):
        if one is not None and other is not None and (best is None or one + other < best):
            best = one + other
    return best


def turned_table(table):
    """The table with its rows as columns."""
    return [list(column) for column in zip(*table)]


def product(one, other):
    """The table of the lengths through the one, then the other table."""
    columns = turned_table(other)
    return [[meeting(row, column) for column in columns] for row in one]


def applied(table, column):
    """The lengths through a table to what is told by a list of lengths behind it."""
    return [meeting(row, column) for row in table]


def least_table(one, other):
    """The table of the lesser entries."""
    return [[lesser_of(a, b) for a, b in zip(row, line)] for row, line in zip(one, other)]


def idle(many):
    """The table of walks without a step."""
    return [[0 if one == other else None for other in range(many)] for one in range(many)]


def first_powers(table):
    """The tables of walks of 0, 1, 2 and so on to MOST_PLAIN steps."""
    powers = [idle(len(table))]
    while len(powers) <= MOST_PLAIN:
        powers.append(product(powers[-1], table))
    return powers


def rings_in(table):
    """The pairs (nodes, length) of all rings of at most three nodes."""
    many = len(table)
    nodes = [(one,) for one in range(many)]
    nodes.extend([(one, other) for one in range(many) for other in range(one + 1, many)])
    if many > 2:
        nodes.extend([(0, 1, 2), (0, 2, 1)])
    rings = []
    for ring in nodes:
        length = 0
        for at, node in enumerate(ring):
            length = sum_of(length, table[node][ring[(at + 1) % len(ring)]])
        if length is not None:
            rings.append((ring, length))
    return rings


def walks_through(powers, ring, steps):
    """The table of the least lengths of walks of so many steps that meet a node of a ring."""
    many = len(powers[0])
    table = [[None for _ in range(many)] for _ in range(many)]
    for ahead in range(steps + 1):
        for node in ring:
            column = [row[node] for row in powers[ahead]]
            behind = powers[steps - ahead][node]
            table = least_table(table, [[sum_of(one, two) for two in behind] for one in column])
    return table


def plain_steps(times, size):
    """The most steps to MOST_PLAIN that differ from times by whole rounds of a ring of this size."""
    return MOST_PLAIN - (MOST_PLAIN - times) % size


def power(table, times):
    """The table of walks of so many steps."""
    powers = first_powers(table)
    if times <= MOST_PLAIN:
        return powers[times]
    best = [[None for _ in table] for _ in table]
    for ring, length in rings_in(table):
        steps = plain_steps(times, len(ring))
        more = (times - steps) // len(ring) * length
        plain = walks_through(powers, ring, steps)
        best = least_table(best, [[sum_of(entry, more) for entry in row] for row in plain])
    return best


def told_rounds(early, table, left, right):
    """What a tale tells: early values, then left, so many steps of a table, and right.

    The number of steps is n less how many early values there are.
    """
    powers = first_powers(table)
    values = list(early)
    values.extend([meeting(left, applied(plain, right)) for plain in powers[:MOST_PLAIN]])
    lines = [[] for _ in range(TURN)]
    for ring, length in rings_in(table):
        size = len(ring)
        worths = {}
        for steps in range(MOST_PLAIN - size + 1, MOST_PLAIN + 1):
            plain = walks_through(powers, ring, steps)
            worths[steps] = meeting(left, applied(plain, right))
        for rest in range(TURN):
            many = first_turn(len(values), rest) - len(early)
            steps = plain_steps(many, size)
            if worths[steps] is not None:
                worth = worths[steps] + (many - steps) // size * length
                lines[rest].append((worth, TURN // size * length))
    return (tuple(values), tuple([curve_of(row) for row in lines]))
