"""Pieces: a mouth, new places, ties and buds."""

from growwebs.checks import ALPHABET, is_integer, is_list, is_pair, is_within, is_word
from growwebs.errors import BadPiece

MOUTH = ("a", "b", "c")
NO_LETTER = "."
MOST_NEW = 6
MOST_BUDS = 4
LONGEST_TIE = 10 ** 50 * 10 ** 50


def is_place(value, mouth, new):
    """Whether the value tells a place of a piece with so many mouth places and new places."""
    if isinstance(value, str):
        return value in MOUTH[:mouth]
    return is_within(value, 0, new - 1)


def is_letter(value):
    """Whether the value is one letter from a to z, or a full stop."""
    return isinstance(value, str) and len(value) == 1 and (value == NO_LETTER or value in ALPHABET)


def are_letters(value):
    """Whether the value is a string of at most six letters and full stops."""
    if not isinstance(value, str) or len(value) > MOST_NEW:
        return False
    return all([is_letter(sign) for sign in value])


def is_tie(value, mouth, new):
    """Whether the value is a tie of two places of which one is new."""
    if not is_list(value) or len(value) != 3:
        return False
    one, other, length = value
    if not is_place(one, mouth, new) or not is_place(other, mouth, new):
        return False
    if one == other or not (is_integer(one) or is_integer(other)):
        return False
    return is_within(length, 1, LONGEST_TIE)


def turned_tie(tie):
    """The tie with its new place first, the lesser one of two new places."""
    one, other, length = tie
    if isinstance(one, str) or (is_integer(other) and other < one):
        return (other, one, length)
    return (one, other, length)


def are_ties(value, mouth, new):
    """Whether the value is a list of ties no two of which join the same places."""
    if not is_list(value) or not all([is_tie(tie, mouth, new) for tie in value]):
        return False
    turned = [turned_tie(tie) for tie in value]
    return len(set([(one, other) for one, other, _ in turned])) == len(turned)


def sorted_ties(ties):
    """The tuple of the turned ties, ascending, with letters behind numbers."""
    turned = [turned_tie(tie) for tie in ties]
    return tuple(sorted(turned, key=lambda tie: (tie[0], isinstance(tie[1], str), tie[1])))


def is_bud(value, mouth, new):
    """Whether the value is a pair of a word and a row of one to three different places."""
    if not is_pair(value) or not is_word(value[0]):
        return False
    row = value[1]
    if not is_list(row) or not 1 <= len(row) <= len(MOUTH):
        return False
    if not all([is_place(told, mouth, new) for told in row]):
        return False
    return len(set([told for told in row])) == len(row)


def are_buds(value, mouth, new):
    """Whether the value is a list of at most four buds."""
    if not is_list(value) or len(value) > MOST_BUDS:
        return False
    return all([is_bud(bud, mouth, new) for bud in value])


class Piece:
    """A small piece of a web, with its mouth, its new places, its ties and its buds."""

    def __init__(self, mouth, letters, ties=(), buds=()):
        if not is_within(mouth, 0, len(MOUTH)):
            raise BadPiece("mouth")
        if not are_letters(letters):
            raise BadPiece("letters")
        if not are_ties(ties, mouth, len(letters)):
            raise BadPiece("ties")
        if not are_buds(buds, mouth, len(letters)):
            raise BadPiece("buds")
        self.mouth = mouth
        self.letters = letters
        self.ties = sorted_ties(ties)
        self.buds = tuple([(kind, tuple(row)) for kind, row in buds])

    def __eq__(self, other):
        if not isinstance(other, Piece):
            return False
        if self.mouth != other.mouth or self.letters != other.letters:
            return False
        return self.ties == other.ties and self.buds == other.buds


def places_of(piece):
    """All places of a piece: its mouth letters, then the numbers of its new places."""
    return MOUTH[:piece.mouth] + tuple(list(range(len(piece.letters))))


def spot_of(piece, told):
    """The index of a place among all places of a piece."""
    if isinstance(told, str):
        return MOUTH.index(told)
    return piece.mouth + told


def hanging_at(piece, told):
    """The pairs (number of a bud, its kind, letter) for the buds in whose rows a place stands."""
    found = []
    for number, (kind, row) in enumerate(piece.buds):
        if told in row:
            at = 0
            while row[at] != told:
                at += 1
            found.append((number, kind, MOUTH[at]))
    return found
