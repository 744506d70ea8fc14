"""Tables of integers, lists of lists, and what they tell of all pieces of one depth."""

from growwebs.powers import turned_table

# To make a table takes as long as to go so many steps for each key, one after another.
STEPS_FOR_A_KEY = 24
# Beyond so many doublings the entries get so long that doubling takes more time than it saves.
DOUBLINGS_THAT_PAY = 7


def row_product(row, columns):
    """The product of a row and a table that is told by its columns."""
    return [sum([one * other for one, other in zip(row, column)]) for column in columns]


def squared(table):
    """The product of a square table of integers from 0 on with itself."""
    # No entry of the product is greater than the square of the greatest sum of a row.
    width = 2 * max([sum(row) for row in table]).bit_length()
    mask = (1 << width) - 1
    # Each row is packed into one long number, so that one product does the work of a whole row of them.
    packed = [sum([entry << (width * at) for at, entry in enumerate(row)]) for row in table]
    sums = row_product(packed, table)
    return [[number >> (width * at) & mask for at in range(len(table))] for number in sums]


def first_sum(table, worths, steps):
    """The first of the sums of worths that are so many steps away by a table."""
    row = [1] + [0 for _ in table[1:]]
    columns = turned_table(table)
    # From both ends to the middle, since so the numbers get only half as long.
    for _ in range(steps // 2):
        row = row_product(row, columns)
    for _ in range(steps - steps // 2):
        worths = row_product(worths, table)
    return sum([many * worth for many, worth in zip(row, worths)])


def sum_at_depth(belows, worths, depth):
    """The sum of the worths of all that is so deep below the first of some keys.

    Keys are told by their numbers; belows has for each key the list of those one deeper.
    """
    if depth < STEPS_FOR_A_KEY * len(belows):
        for _ in range(depth):
            worths = [sum([worths[below] for below in line]) for line in belows]
        return worths[0]
    table = [[line.count(key) for key in range(len(belows))] for line in belows]
    left = depth
    for _ in range(DOUBLINGS_THAT_PAY):
        if left < 2:
            break
        if left % 2 == 1:
            worths = row_product(worths, table)
        table = squared(table)
        left = left // 2
    return first_sum(table, worths, left)
