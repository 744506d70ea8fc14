"""What is nearest to a place with a letter, where some places have other letters than in the book."""

from growwebs.distances import entered, mouth_lengths
from growwebs.lengths import length_tables
from growwebs.nears import nearest_below, tight_letters, told_below
from growwebs.nones import is_less
from growwebs.patches import Patch, free_buds, number_of_piece, piece_at, row_of


def patch_lengths(view, patch):
    """For each piece of a patch the distances of its places from the place of the view."""
    depths = [0]
    found = [view.rows[0]]
    for at in range(1, len(patch.kinds)):
        above, number = patch.hangs[at]
        depth = depths[above]
        if depth is not None and view.row[depth:depth + 1] == (number,):
            depths.append(depth + 1)
            found.append(view.rows[depth + 1])
            continue
        depths.append(None)
        mouth = mouth_lengths(piece_at(patch, above), number, found[above])
        found.append(entered(length_tables(view.plan)[patch.kinds[at]], mouth))
    return found


def lettered_in(patch, lengths, letter, given):
    """The triples (distance, number of a piece, number) of the new places with the letter."""
    found = []
    for at in range(len(patch.kinds)):
        piece = piece_at(patch, at)
        for number, sign in enumerate(piece.letters):
            length = lengths[at][piece.mouth + number]
            if length is not None and given.get((at, number), sign) == letter:
                found.append((length, at, number))
    return found


def lettered_off(patch, lengths, letter):
    """The triples (distance, number of a piece, bud) of what is nearest at the free buds."""
    found = []
    for at in range(len(patch.kinds)):
        piece = piece_at(patch, at)
        for bud in free_buds(patch, at):
            mouth = mouth_lengths(piece, bud, lengths[at])
            length = nearest_below(patch.plan, letter, piece.buds[bud][0], mouth)
            if length is not None:
                found.append((length, at, bud))
    return found


def told_off(patch, lengths, letter, off, goal):
    """The pairs (how many, first name) for the buds at which the letter is just goal off."""
    known = {}
    found = []
    for length, at, bud in off:
        if length == goal:
            piece = piece_at(patch, at)
            kind = piece.buds[bud][0]
            tight = tight_letters(patch.plan, letter, kind, mouth_lengths(piece, bud, lengths[at]), goal)
            many, name = told_below(patch.plan, letter, kind, tight, known)
            found.append((many, (row_of(patch, at) + (bud,) + name[0], name[1])))
    return found


def nearest_name(view, letter, given):
    """The triple (distance, how many, first name) of what is nearest with the letter, or None.

    The dict given has, for the names of some places, letters that they have instead of the book's.
    """
    patch = Patch(view.plan, [view.row] + [row for row, _ in given])
    lengths = patch_lengths(view, patch)
    changed = {(number_of_piece(patch, name[0]), name[1]): given[name] for name in given}
    near = lettered_in(patch, lengths, letter, changed)
    off = lettered_off(patch, lengths, letter)
    goal = None
    for length, _, _ in near + off:
        if is_less(length, goal):
            goal = length
    if goal is None:
        return None
    found = [(1, (row_of(patch, at), number)) for length, at, number in near if length == goal]
    found.extend(told_off(patch, lengths, letter, off, goal))
    return goal, sum([many for many, _ in found]), min([name for _, name in found])
