"""Which colours one place, or two places at once, have in some lead."""

from growwebs.choices import held_options, keys_at, keys_below
from growwebs.colourings import options_of
from growwebs.rules import ascending
from growwebs.search import common_length


class Chances:
    """What is asked for the colours of places: a plan, a rule, and what can be gone on."""

    def __init__(self, plan, rule, reckoning):
        self.plan = plan
        self.rule = rule
        self.reckoning = reckoning


def going_on(chances, key, numbers):
    """The options of a key by which one can go on, with the colours of some new places kept."""
    mouth = chances.plan.pieces[key[0]].mouth
    kept = tuple([mouth + number for number in numbers])
    return held_options(options_of(chances.plan, chances.rule, key, kept), chances.reckoning.rounds)


def ascending_signs(strings):
    """All signs of some strings, each once, ascending."""
    return ascending("".join(strings))


def colours_of_new(chances, keys, number):
    """For each of some keys the colours that a new place of the piece may have."""
    return {key: ascending_signs([option[1] for option in going_on(chances, key, [number])]) for key in keys}


def colours_down(chances, keys, row, number):
    """For each of some keys the colours of a new place of the piece behind it at a row."""
    under = chances.reckoning.under
    levels = [keys]
    for bud in row:
        levels.append(keys_below(chances.reckoning, levels[-1], bud))
    found = colours_of_new(chances, levels[-1], number)
    for depth in range(len(row) - 1, -1, -1):
        below = found
        found = {key: ascending_signs([below[under_key] for under_key in under[key][row[depth]]])
                 for key in levels[depth]}
    return found


def pairs_told(chances, one, other):
    """The ascending tuple of the pairs of colours of two places, told by their names."""
    names = (one, other)
    depth = common_length(one[0], other[0])
    keys = keys_at(chances.reckoning, one[0][:depth])
    deeper = [None, None]
    for at, (row, number) in enumerate(names):
        if len(row) > depth:
            below = keys_below(chances.reckoning, keys, row[depth])
            deeper[at] = colours_down(chances, below, row[depth + 1:], number)
    numbers = [number for row, number in names if len(row) == depth]
    found = {}
    for key in keys:
        for option in going_on(chances, key, numbers):
            for pair in pairs_in(names, depth, deeper, option[0], option[1]):
                found[pair] = True
    return tuple(sorted(found))


def pairs_in(names, depth, deeper, below, colours):
    """The pairs of colours of two places if the piece where their rows part is coloured so."""
    sides = []
    at = 0
    for (row, _), down in zip(names, deeper):
        if down is None:
            sides.append(colours[at])
            at += 1
        else:
            sides.append(down[below[row[depth]]])
    return [one + other for one in sides[0] for other in sides[1]]
