"""Colourings and pairings of plain webs, found by trying."""

import itertools
import random

from growwebs.rules import Rule


def fits(rule, one, other):
    return "".join(sorted(one + other)) in rule.beside


def colourings(web, rule, fixed=None, most=None):
    """The colourings of all places of a plain web, as dicts, with some fixed; at most so many."""
    fixed = dict(fixed or {})
    names = [name for name in web.ties if name in fixed] + [name for name in web.letters if name not in fixed]
    found = []
    told = {}

    def allowed(name):
        if name not in web.letters:
            return fixed[name]
        colours = rule.letters.get(web.letters[name], rule.colours)
        return [colour for colour in colours if fixed.get(name, colour) == colour]

    def place(at):
        if at == len(names):
            found.append(dict(told))
            return most is not None and len(found) >= most
        name = names[at]
        for colour in allowed(name):
            if all(fits(rule, colour, told[other]) for other in web.ties[name] if other in told
                   and (name in web.letters or other in web.letters)):
                told[name] = colour
                if place(at + 1):
                    return True
                del told[name]
        return False

    place(0)
    return found


def can_be_coloured(web, rule, fixed=None):
    return len(colourings(web, rule, fixed, most=1)) > 0


def pairings(web, free=(), most=None, barred=()):
    """The pairings of a plain web along its ties, as dicts; places of free may stay alone."""
    names = [name for name in web.ties if name not in barred]
    found = []
    told = {}

    def place(at):
        while at < len(names) and names[at] in told:
            at += 1
        if at == len(names):
            found.append(dict(told))
            return most is not None and len(found) >= most
        name = names[at]
        for other in sorted(web.ties[name], key=repr):
            if other not in told and other not in barred:
                told[name], told[other] = other, name
                if place(at + 1):
                    return True
                del told[name], told[other]
        if name in free:
            told[name] = None
            if place(at + 1):
                return True
            del told[name]
        return False

    place(0)
    return found


def hanging(web, pieces, rows):
    """The names of the places at which buds of pieces at some rows hang, whose pieces are not among these."""
    found = set()
    for row in rows:
        for number, (_, places) in enumerate(pieces[web.kinds[row]].buds):
            if row + (number,) not in rows:
                found.update(web.told[(row, told)] for told in places)
    return found


def random_rule(rng, many=None):
    """A random rule of one to four colours, with letters now and then."""
    colours = "abcd"[:many or rng.choice([1, 2, 2, 3, 3, 4])]
    pairs = ["".join(pair) for pair in itertools.combinations_with_replacement(colours, 2)]
    beside = [pair for pair in pairs if rng.random() < (0.7 if pair[0] != pair[1] else 0.25)]
    letters = {letter: "".join(colour for colour in colours if rng.random() < 0.6)
               for letter in "ab." if rng.random() < 0.3}
    return Rule(colours, beside, letters)


def random_rules(seed, many):
    rng = random.Random(seed)
    return [random_rule(rng) for _ in range(many)]
