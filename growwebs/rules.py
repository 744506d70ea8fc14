"""Rules: which colours places may have, and which may stand at the two ends of a tie."""

from growwebs.checks import ALPHABET, is_list
from growwebs.errors import BadRule
from growwebs.pieces import is_letter

MOST_COLOURS = 4


def are_colours(value):
    """Whether the value is a string of one to four different letters."""
    if not isinstance(value, str) or not 1 <= len(value) <= MOST_COLOURS:
        return False
    return all([sign in ALPHABET for sign in value]) and len(set(value)) == len(value)


def are_some_of(value, colours):
    """Whether the value is a string of colours, also an empty one."""
    return isinstance(value, str) and all([sign in colours for sign in value])


def are_letters_of(value, colours):
    """Whether the value is None or a dict from letters of places to strings of colours."""
    if value is None:
        return True
    if not isinstance(value, dict):
        return False
    return all([is_letter(letter) and are_some_of(value[letter], colours) for letter in value])


def ascending(signs):
    """The signs of a string, each once, ascending."""
    return "".join(sorted(set(signs)))


def check_beside(beside, colours):
    """Raise BadRule for the first value that is wrong in what may stand beside each other."""
    if not is_list(beside):
        raise BadRule(beside)
    for pair in beside:
        if not are_some_of(pair, colours) or len(pair) != 2:
            raise BadRule(pair)


class Rule:
    """Colours, the pairs of them that may stand at the ends of a tie, and what letters may have."""

    def __init__(self, colours, beside, letters=None):
        if not are_colours(colours):
            raise BadRule(colours)
        check_beside(beside, colours)
        if not are_letters_of(letters, colours):
            raise BadRule(letters)
        told = {} if letters is None else letters
        self.colours = ascending(colours)
        self.beside = tuple(sorted(set(["".join(sorted(pair)) for pair in beside])))
        self.letters = {letter: ascending(told[letter]) for letter in sorted(told)}

    def __eq__(self, other):
        if not isinstance(other, Rule) or self.colours != other.colours:
            return False
        return self.beside == other.beside and self.letters == other.letters
