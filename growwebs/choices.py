"""Choices of pieces: what each piece may have, given what stands at its mouth, without end.

A key is a pair (kind, string): what stands at the mouth of a piece of the kind. An option of a key is
a tuple that begins with the keys of the buds of the piece, in a tuple; what else it has is not asked.
"""

from growwebs.rings import turned_lines
from growwebs.rows import plain_stretches
from growwebs.walks import left_out


def first_held(options, begun, rounds):
    """The index, from one on, of the first option without a key that has been struck."""
    while begun < len(options) and any([below in rounds for below in options[begun][0]]):
        begun += 1
    return begun


def struck_rounds(options):
    """For each key beyond which one cannot go on for ever the round, from 1, in which it is struck."""
    rounds = {}
    tried = {key: 0 for key in options}
    number = 0
    fallen = list(options)
    while fallen:
        number += 1
        fallen = []
        for key in options:
            if key not in rounds:
                # What has been struck stays so: an option that was given up need not be tried again.
                tried[key] = first_held(options[key], tried[key], rounds)
                if tried[key] == len(options[key]):
                    fallen.append(key)
        for key in fallen:
            rounds[key] = number
    return rounds


def met_options(options, start):
    """The options of all keys that are met from a key on, in the order in which they are met."""
    met = {start: options[start]}
    waiting = [start]
    at = 0
    while at < len(waiting):
        for option in options[waiting[at]]:
            for below in option[0]:
                if below not in met:
                    met[below] = options[below]
                    waiting.append(below)
        at += 1
    return met


def held_options(options, rounds):
    """Those options, of some keys, by which one can go on for ever."""
    return [option for option in options if not any([below in rounds for below in option[0]])]


def alive_options(options, rounds, start):
    """The options by which one can go on, of all keys that are met by them, in the order of meeting."""
    if start in rounds:
        return {}
    alive = {key: held_options(options[key], rounds) for key in options if key not in rounds}
    return met_options(alive, start)


class Reckoning:
    """What can be gone on for ever, among the options of all keys, from the key of the seed on.

    rounds has the round in which a key is struck, alive the options of what is left, under for each
    key and bud the keys that the bud may have.
    """

    def __init__(self, options, start):
        self.options = options
        self.start = start
        self.rounds = struck_rounds(options)
        self.alive = alive_options(options, self.rounds, start)
        self.under = {key: keys_by_bud(self.alive[key]) for key in self.alive}


def keys_by_bud(options):
    """For each bud of a piece the ascending list of the keys that it may have."""
    return [sorted(set([option[0][bud] for option in options])) for bud in range(len(options[0][0]))]


def first_failing(reckoning):
    """The least depth to which nothing can be chosen, None if one can go on for ever."""
    if reckoning.start not in reckoning.rounds:
        return None
    return reckoning.rounds[reckoning.start] - 1


def led_to(followers, goals):
    """The dict of all keys from which one comes to a goal, the goals among them."""
    above = turned_lines(followers)
    met = {key: True for key in goals}
    waiting = list(goals)
    while waiting:
        for key in above[waiting.pop()]:
            if key not in met:
                met[key] = True
                waiting.append(key)
    return met


def keys_below(reckoning, keys, number):
    """The ascending list of the keys that the piece at a bud may have, below some keys."""
    return sorted(set([below for key in keys for below in reckoning.under[key][number]]))


def keys_behind(reckoning, keys, word):
    """The ascending list of the keys that the piece behind a word may have, below some keys."""
    for number in word:
        keys = keys_below(reckoning, keys, number)
    return keys


def keys_at(reckoning, row):
    """The ascending list of the keys that the piece at a row of any length may have."""
    keys = [reckoning.start]
    for word, times in plain_stretches(row):
        seen = {}
        done = 0
        while done < times:
            done = left_out(seen, tuple(keys), done, times)
            if done == times:
                break
            seen[tuple(keys)] = done
            keys = keys_behind(reckoning, keys, word)
            done = done + 1
    return keys


def rows_to(plan, depth):
    """The list of all rows with at most so many numbers, shorter ones first, then ascending."""
    rows = [()]
    level = [((), plan.seed)]
    for _ in range(depth):
        level = [(row + (number,), below) for row, kind in level
                 for number, (below, _) in enumerate(plan.pieces[kind].buds)]
        rows.extend([row for row, _ in level])
    return rows
