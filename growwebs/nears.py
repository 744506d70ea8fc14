"""What is nearest with a letter, inside what grows from the kinds of a book.

The places of a piece are told by their indexes: the mouth letters first, then the new ones.
"""

from growwebs.distances import entered, mouth_lengths
from growwebs.lengths import length_tables
from growwebs.nones import lesser_of, sum_of
from growwebs.pieces import spot_of


def begun_at(piece, letter, nears):
    """For each place of a piece how near the letter is at the place itself or below it."""
    begun = [None for _ in range(piece.mouth)] + [0 if sign == letter else None for sign in piece.letters]
    for kind, row in piece.buds:
        for told, near in zip(row, nears[kind]):
            spot = spot_of(piece, told)
            begun[spot] = lesser_of(begun[spot], near)
    return begun


def all_nears(plan, letter):
    """For each kind and place the least length inside to a new place with the letter, or None."""
    tables = length_tables(plan)
    nears = {kind: [None for _ in tables[kind]] for kind in tables}
    # A shortest way down meets no mouth letter of a kind twice, so this comes to rest soon.
    while True:
        told = {kind: entered(tables[kind], begun_at(plan.pieces[kind], letter, nears)) for kind in tables}
        if told == nears:
            return nears
        nears = told


def near_tables(plan, letter):
    """all_nears of a book, worked out once for each letter."""
    if ("nears", letter) not in plan.tables:
        plan.tables[("nears", letter)] = all_nears(plan, letter)
    return plan.tables[("nears", letter)]


def cares_in(plan, letter, kind, mouth):
    """The cares of all places of a piece, from those of its mouth places."""
    outer = entered(length_tables(plan)[kind], mouth)
    return [lesser_of(far, near) for far, near in zip(outer, near_tables(plan, letter)[kind])]


def nearest_below(plan, letter, kind, mouth):
    """The least sum of a length of a mouth place and of the way on from there to the letter."""
    nears = near_tables(plan, letter)[kind]
    best = None
    for begun, near in zip(mouth, nears):
        best = lesser_of(best, sum_of(begun, near))
    return best


def tight_letters(plan, letter, kind, mouth, goal):
    """The indexes of the mouth places by which the letter is just goal off, given their lengths."""
    nears = near_tables(plan, letter)[kind]
    sums = [sum_of(begun, near) for begun, near in zip(mouth, nears)]
    return tuple([at for at, total in enumerate(sums) if total == goal])


def told_below(plan, letter, kind, tight, known):
    """The pair (how many, first name) of what is nearest, with the letter, to some mouth places.

    Each of these is as far from the letter as it is inside; names are told from this piece on. What
    has been worked out is kept in the dict known.
    """
    if (kind, tight) in known:
        return known[(kind, tight)]
    piece = plan.pieces[kind]
    nears = near_tables(plan, letter)[kind]
    table = length_tables(plan)[kind]
    # Seen from all these mouth places at once, the letter is 0 off.
    mouth = [0 - nears[at] if at in tight else None for at in range(piece.mouth)]
    lengths = entered(table, mouth)
    own = [at for at, sign in enumerate(piece.letters) if sign == letter and lengths[piece.mouth + at] == 0]
    many = len(own)
    first = ((), own[0]) if own else None
    for bud, (below, _) in enumerate(piece.buds):
        under = tight_letters(plan, letter, below, mouth_lengths(piece, bud, lengths), 0)
        if under:
            more, name = told_below(plan, letter, below, under, known)
            many = many + more
            if first is None:
                first = ((bud,) + name[0], name[1])
    known[(kind, tight)] = (many, first)
    return many, first
