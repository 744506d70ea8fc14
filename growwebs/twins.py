"""What grows from two pieces side by side, of one book or of two, and where it begins to differ.

Twins are a triple (kind, other kind, alike): alike is the ascending tuple of the pairs (letter, other
letter) of mouth places that are one and the same. Where nothing hangs the kind is None.
"""

from growwebs.pieces import MOUTH, Piece


def piece_of(pieces, kind):
    """The Piece of a kind; for None one that has nothing."""
    return Piece(0, "") if kind is None else pieces[kind]


def new_ties(piece, number, letters, strange):
    """The ascending list of the ties of a new place to places ahead of it.

    Mouth places are told by what the dict letters has for them, or as strange.
    """
    found = []
    for one, other, length in piece.ties:
        if one == number and isinstance(other, str):
            found.append(("mouth", letters.get(other, strange), length))
        elif other == number:
            found.append(("new", one, length))
    return sorted(found)


def first_unlike(piece, other, alike):
    """The number of the first new place that is not the same in two pieces, or None."""
    own = {letter: letter for letter, _ in alike}
    turned = {letter: same for same, letter in alike}
    many = min(len(piece.letters), len(other.letters))
    for number in range(many):
        if piece.letters[number] != other.letters[number]:
            return number
        if new_ties(piece, number, own, "one") != new_ties(other, number, turned, "other"):
            return number
    return None if len(piece.letters) == len(other.letters) else many


def bud_at(piece, number):
    """The bud of a piece with a number, (None, ()) if there is none."""
    return piece.buds[number] if number < len(piece.buds) else (None, ())


def are_one(told, other, alike):
    """Whether places of twins are the same: new ones of one number, or mouth places that are alike."""
    if isinstance(told, str):
        return (told, other) in alike
    return told == other


def twins_at(piece, other, alike, number):
    """The twins at a bud of twins."""
    kind, row = bud_at(piece, number)
    beside, other_row = bud_at(other, number)
    same = [(letter, other_letter) for letter, told in zip(MOUTH, row)
            for other_letter, other_told in zip(MOUTH, other_row) if are_one(told, other_told, alike)]
    return kind, beside, tuple(same)


def first_parting(pieces, others, begin):
    """The first name of a place, shorter first, that is not the same in what grows from twins, or None."""
    rows = {begin: ()}
    waiting = [begin]
    at = 0
    while at < len(waiting):
        kind, beside, alike = waiting[at]
        row = rows[waiting[at]]
        piece = piece_of(pieces, kind)
        other = piece_of(others, beside)
        number = first_unlike(piece, other, alike)
        if number is not None:
            return row, number
        for bud in range(max(len(piece.buds), len(other.buds))):
            twins = twins_at(piece, other, alike, bud)
            if twins not in rows:
                rows[twins] = row + (bud,)
                waiting.append(twins)
        at += 1
    return None
