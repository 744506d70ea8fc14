"""What the buds alone tell: rings of places that are handed on, and which kinds go on for ever."""

from growwebs.pieces import MOUTH, hanging_at


def handed_to(pieces, pair):
    """The list of pairs (kind, mouth letter) to which a mouth place is handed on, by buds."""
    kind, letter = pair
    return [(below, place) for _, below, place in hanging_at(pieces[kind], letter)]


def turned_lines(lines):
    """For each pair or kind the list of those that lead to it."""
    above = {pair: [] for pair in lines}
    for pair in lines:
        for below in lines[pair]:
            above[below].append(pair)
    return above


def steps_back(lines, goal):
    """How many steps the shortest way to the goal has, for all from which one leads there."""
    above = turned_lines(lines)
    steps = {goal: 0}
    waiting = [goal]
    at = 0
    while at < len(waiting):
        here = waiting[at]
        for pair in above[here]:
            if pair not in steps:
                steps[pair] = steps[here] + 1
                waiting.append(pair)
        at += 1
    return steps


def without_dead_ends(lines):
    """The lines among those pairs from which one can go on for ever."""
    above = turned_lines(lines)
    left = {pair: len(lines[pair]) for pair in lines}
    waiting = [pair for pair in lines if left[pair] == 0]
    while waiting:
        here = waiting.pop()
        for pair in above[here]:
            left[pair] = left[pair] - 1
            if left[pair] == 0:
                waiting.append(pair)
    return {pair: [to for to in lines[pair] if left[to] > 0] for pair in lines if left[pair] > 0}


def first_ring(pieces):
    """The ring that HandedOn tells, or None."""
    lines = {}
    for kind in sorted(pieces):
        for letter in MOUTH[:pieces[kind].mouth]:
            lines[(kind, letter)] = handed_to(pieces, (kind, letter))
    lines = without_dead_ends(lines)
    for start in lines:
        steps = steps_back(lines, start)
        backs = [steps[pair] for pair in lines[start] if pair in steps]
        if backs:
            return ring_from(lines, steps, start, min(backs))
    return None


def ring_from(lines, steps, start, left):
    """The shortest ring from a pair that goes to the earliest bud at each step."""
    ring = [start]
    while left > 0:
        nearer = [pair for pair in lines[ring[-1]] if steps.get(pair) == left]
        ring.append(nearer[0])
        left -= 1
    return tuple(ring)


def count_lies(pieces, kind, told):
    """In how many pieces a place of a kind lies, from there on down."""
    below = hanging_at(pieces[kind], told)
    return 1 + sum([count_lies(pieces, bud_kind, letter) for _, bud_kind, letter in below])


def greatest_lies(pieces):
    """In how many pieces a new place of some kind lies at most."""
    counts = [0]
    for kind in pieces:
        for number in range(len(pieces[kind].letters)):
            counts.append(count_lies(pieces, kind, number))
    return max(counts)


def goes_on(seed, pieces):
    """Whether endlessly many pieces grow from the seed."""
    met = [seed]
    at = 0
    while at < len(met):
        piece = pieces[met[at]]
        for kind, _ in piece.buds:
            if kind not in met:
                met.append(kind)
        at += 1
    lines = {kind: [below for below, _ in pieces[kind].buds] for kind in met}
    return len(without_dead_ends(lines)) > 0
