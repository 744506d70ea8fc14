"""Lanes: by which buds the places of a part are joined to further places, and on without end."""

from growwebs.errors import NoKind, NoPart
from growwebs.rings import without_dead_ends
from growwebs.strands import lane_tables, part_tables, strand_lines


def check_strand(book, kind, part):
    """Raise an error for values that are no kind of the book, or no part of its mouth."""
    if not isinstance(kind, str) or kind not in book.plan.pieces:
        raise NoKind(kind)
    if not isinstance(part, str) or part not in part_tables(book.plan)[kind]:
        raise NoPart(kind, part)


def lanes(book, kind, part):
    """The ascending list of triples (bud, kind, part), one for each lane from a strand."""
    check_strand(book, kind, part)
    return list(lane_tables(book.plan)[(kind, part)])


def grows_on(book, kind, part):
    """Whether endlessly many places are joined to the part inside what grows from the kind."""
    check_strand(book, kind, part)
    lines = strand_lines(book.plan)
    followers = {strand: [below for _, below in lines[strand]] for strand in lines}
    return (kind, part) in without_dead_ends(followers)
