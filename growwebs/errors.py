"""The errors of growwebs: WebError, and directly below it one class for each kind of failure.

An error has the fields it was created from as attributes, just as they were passed.
"""


class WebError(ValueError):
    """Any failure that growwebs tells."""


class BadPiece(WebError):
    """The argument of a Piece with this name is not as told."""

    def __init__(self, field):
        self.field = field


class BadBook(WebError):
    """The seed, or this kind of a book, is not as told."""

    def __init__(self, kind):
        self.kind = kind


class BadBud(WebError):
    """This bud of a kind does not fit to the book."""

    def __init__(self, kind, number):
        self.kind = kind
        self.number = number


class HandedOn(WebError):
    """Places are handed on for ever along this ring."""

    def __init__(self, ring):
        self.ring = ring


class NoKind(WebError):
    """The book has no such kind."""

    def __init__(self, kind):
        self.kind = kind


class NoMouth(WebError):
    """The mouth of the kind has no such letter."""

    def __init__(self, kind, letter):
        self.kind = kind
        self.letter = letter


class NoPart(WebError):
    """The mouth of the kind has no such part."""

    def __init__(self, kind, part):
        self.kind = kind
        self.part = part


class NoPiece(WebError):
    """No piece is at this row."""

    def __init__(self, row):
        self.row = row


class NoPlace(WebError):
    """The piece has no such place."""

    def __init__(self, told):
        self.told = told


class NoBud(WebError):
    """The piece of the kind has no such bud."""

    def __init__(self, kind, number):
        self.kind = kind
        self.number = number


class NoTie(WebError):
    """The piece of the kind has no such tie."""

    def __init__(self, kind, one, other):
        self.kind = kind
        self.one = one
        self.other = other


class OtherBook(WebError):
    """Objects of unequal books were used together."""


class TooMany(WebError):
    """There are more than this many."""

    def __init__(self, most):
        self.most = most


class TooFar(WebError):
    """A number is too great to be looked at."""

    def __init__(self, number):
        self.number = number


class TooLong(WebError):
    """A row has so many numbers, which are too many."""

    def __init__(self, length):
        self.length = length


class TooGreat(WebError):
    """A piece would have too many places or buds."""


class BadNumber(WebError):
    """The value is no integer of the told range."""

    def __init__(self, value):
        self.value = value


class BadWord(WebError):
    """The value is no word or sign of the told form."""

    def __init__(self, value):
        self.value = value


class BadRow(WebError):
    """The stretch with this index is none; -1: the list is none."""

    def __init__(self, index):
        self.index = index


class OutsideRow(WebError):
    """The number is outside of the row."""

    def __init__(self, number):
        self.number = number


class BadLoop(WebError):
    """The argument of a Loop with this name is not as told."""

    def __init__(self, field):
        self.field = field


class NotBack(WebError):
    """The word of a loop leads from a kind to another one."""

    def __init__(self, kind, other):
        self.kind = kind
        self.other = other


class BadTimes(WebError):
    """The argument of a Times with this name is not as told."""

    def __init__(self, field):
        self.field = field


class BadTale(WebError):
    """The argument of a Tale with this name is not as told."""

    def __init__(self, field):
        self.field = field


class NotJoined(WebError):
    """No way leads from one place to the other."""


class NoSuch(WebError):
    """There is nothing with this number."""

    def __init__(self, number):
        self.number = number


class NotShortest(WebError):
    """The value is none of the shortest ways."""

    def __init__(self, way):
        self.way = way


class NotOnAll(WebError):
    """The value is not on every way."""

    def __init__(self, value):
        self.value = value


class BadRule(WebError):
    """The value tells no rule."""

    def __init__(self, value):
        self.value = value


class BadTable(WebError):
    """The table has nothing right under this key."""

    def __init__(self, key):
        self.key = key


class Endless(WebError):
    """There are endlessly many."""


class BadGuard(WebError):
    """The value is no guard."""

    def __init__(self, value):
        self.value = value


class Refused(WebError):
    """This guard does not hold, or is not set."""

    def __init__(self, guard):
        self.guard = guard


class NothingToUndo(WebError):
    """Nothing is left that could be undone."""
