"""Walking down rows through the pieces of a book, without Place objects.

A name is a pair (row, number) of tuples and integers; it stands for a place.
"""

from growwebs.pieces import MOUTH, hanging_at
from growwebs.rows import count_row, first_of_row, plain_stretches, rest_of_row

MOST_LIES = 200


class Plan:
    """What all calls need of a book: the kind of its seed, its pieces, and tables made once."""

    def __init__(self, seed, pieces):
        self.seed = seed
        self.pieces = {kind: pieces[kind] for kind in pieces}
        self.tables = {}


def step_through(plan, kind, word):
    """The pair (kind behind a word, or None, how many numbers lead to a piece or fail first)."""
    for index, number in enumerate(word):
        buds = plan.pieces[kind].buds
        if not 0 <= number < len(buds):
            return None, index + 1
        kind = buds[number][0]
    return kind, len(word)


def left_out(seen, state, done, times):
    """How often a word has been gone when whole rounds are left out, once a state comes again."""
    if state not in seen:
        return done
    around = done - seen[state]
    return done + (times - done) // around * around


def walk_stretch(plan, kind, word, times):
    """The same as step_through for a word that stands times times."""
    seen = {}
    done = 0
    while done < times:
        done = left_out(seen, kind, done, times)
        if done == times:
            break
        seen[kind] = done
        kind, gone = step_through(plan, kind, word)
        if kind is None:
            return None, done * len(word) + gone
        done = done + 1
    return kind, times * len(word)


def walk(plan, row):
    """The pair (kind of the piece at a row, None), or (None, length of the least beginning that fails)."""
    kind = plan.seed
    gone = 0
    for word, times in plain_stretches(row):
        kind, many = walk_stretch(plan, kind, word, times)
        gone = gone + many
        if kind is None:
            return None, gone
    return kind, None


def named_below(piece, number, depth, mouth):
    """The mouth of the piece at a bud: letters to (depth of the row, number) of places."""
    below = {}
    for letter, told in zip(MOUTH, piece.buds[number][1]):
        if isinstance(told, str):
            below[letter] = mouth.get(told)
        else:
            below[letter] = (depth, told)
    return below


def mouth_at(plan, row):
    """The pair (kind, mouth) of the piece at a row of the web, mouth as named_below tells it."""
    total = count_row(row)
    # No place lies in more than MOST_LIES pieces, so all of the mouth is new in these last ones.
    depth = max(0, total - MOST_LIES)
    ahead = first_of_row(row, depth)
    kind = walk(plan, ahead)[0]
    mouth = {}
    for number in rest_of_row(row, depth):
        piece = plan.pieces[kind]
        mouth = named_below(piece, number, depth, mouth)
        kind = piece.buds[number][0]
        depth = depth + 1
    return kind, mouth


def names_of_mouth(plan, row):
    """The names of the mouth places of the piece at a row that is a tuple."""
    mouth = mouth_at(plan, row)[1]
    return {letter: (row[:mouth[letter][0]], mouth[letter][1]) for letter in mouth}


def name_of(row, names, told):
    """The name of the place that is told at the piece at a row with these mouth names."""
    if isinstance(told, str):
        return names[told]
    return (row, told)


def names_below(piece, number, row, names):
    """The mouth names of the piece at a bud of a piece at a row."""
    told = piece.buds[number][1]
    return {letter: name_of(row, names, place) for letter, place in zip(MOUTH, told)}


def lying_in(plan, row, number):
    """All pieces in which a new place lies, as (row, kind, place there, mouth names), ascending."""
    kind = walk(plan, row)[0]
    found = []
    waiting = [(row, kind, number, names_of_mouth(plan, row))]
    while waiting:
        row, kind, told, names = waiting.pop()
        found.append((row, kind, told, names))
        piece = plan.pieces[kind]
        for bud, below, letter in hanging_at(piece, told)[::-1]:
            waiting.append((row + (bud,), below, letter, names_below(piece, bud, row, names)))
    return found


def ties_at(plan, row, number):
    """The ascending list of pairs (name, length) for all ties of a new place."""
    found = []
    for at, kind, told, names in lying_in(plan, row, number):
        for one, other, length in plan.pieces[kind].ties:
            if one == told:
                found.append((name_of(at, names, other), length))
            elif other == told:
                found.append((name_of(at, names, one), length))
    return sorted(found)
