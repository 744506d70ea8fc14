"""Which mouth places what grows from a kind is tied to, and in which order they can be told apart."""

from growwebs.nones import is_less
from growwebs.pieces import MOUTH


def living_kinds(pieces):
    """The dict of the kinds from which some new place grows."""
    living = {}
    grown = True
    while grown:
        grown = False
        for kind in pieces:
            below = [bud for bud, _ in pieces[kind].buds if bud in living]
            if kind not in living and (pieces[kind].letters or below):
                living[kind] = True
                grown = True
    return living


def needed_once(piece, needed):
    """The letters of a piece's mouth that are tied to something, given those of the kinds of its buds."""
    found = [other for _, other, _ in piece.ties]
    for kind, row in piece.buds:
        found.extend([told for letter, told in zip(MOUTH, row) if letter in needed[kind]])
    return "".join([letter for letter in MOUTH[:piece.mouth] if letter in found])


def needed_letters(pieces):
    """For each kind the letters of its mouth that are tied to something in what grows from it."""
    needed = {kind: "" for kind in pieces}
    while True:
        told = {kind: needed_once(pieces[kind], needed) for kind in pieces}
        if told == needed:
            return needed
        needed = told


def length_to(piece, number, letter):
    """The length of the tie of a new place and a mouth letter, None if there is none."""
    for one, other, length in piece.ties:
        if one == number and other == letter:
            return length
    return None


def letter_below(row, letter):
    """The letter that a mouth place has at a bud, None if it is not handed on there."""
    return MOUTH[row.index(letter)] if letter in row else None


def first_lengths(pieces, kind, one, other):
    """The first two lengths of ties in which two mouth places differ, shorter rows first, or None."""
    met = {(kind, one, other): True}
    waiting = [(kind, one, other)]
    at = 0
    while at < len(waiting):
        here, first, second = waiting[at]
        piece = pieces[here]
        for number in range(len(piece.letters)):
            lengths = (length_to(piece, number, first), length_to(piece, number, second))
            if lengths[0] != lengths[1]:
                return lengths
        for below, row in piece.buds:
            state = (below, letter_below(row, first), letter_below(row, second))
            if state not in met and state[1:] != (None, None):
                met[state] = True
                waiting.append(state)
        at += 1
    return None


def stands_ahead(pieces, kind, one, other):
    """Whether a mouth place is tied earlier, or by a shorter tie, than another one."""
    lengths = first_lengths(pieces, kind, one, other)
    return lengths is not None and is_less(lengths[0], lengths[1])


def needed_groups(pieces, kind, letters):
    """The letters in order, in groups of those that nothing tells apart."""
    ranks = {letter: len([other for other in letters if stands_ahead(pieces, kind, other, letter)])
             for letter in letters}
    groups = []
    for rank in sorted(set([ranks[letter] for letter in letters])):
        groups.append([letter for letter in letters if ranks[letter] == rank])
    return groups
