"""Covers: how near each place of a web is to a place with a letter, for all places at once."""

from growwebs.books import Place
from growwebs.checks import is_within
from growwebs.distances import mouth_lengths
from growwebs.errors import BadNumber, TooMany
from growwebs.leading import all_rows, all_turns
from growwebs.nears import cares_in, near_tables
from growwebs.pieces import MOUTH
from growwebs.sights import check_letter
from growwebs.strands import part_tables, strand_lines

MOST_STATES = 200


class Lonely:
    """How lonely the places of a web are without a letter: never, endless or most, and where."""

    def __init__(self, verdict, radius=None, spot=None, head=None, part=None, turn=None):
        self.verdict = verdict
        self.radius = radius
        self.spot = spot
        self.head = head
        self.part = part
        self.turn = turn


def held(cares, radius):
    """The cares, None for each one that is greater than the radius."""
    return tuple([None if care is None or care > radius else care for care in cares])


def all_kept(cares):
    """The cares, just as they are."""
    return tuple(cares)


def known_only(cares):
    """The cares, 0 for each one that there is."""
    return tuple([None if care is None else 0 for care in cares])


def first_rows(book, letter, reduced):
    """The dict of all states (kind, cares), in order, to the rows at which they are met first.

    The function reduced tells what of cares is kept, so that the states come to an end.
    """
    plan = book.plan
    begin = (plan.seed, ())
    rows = {begin: ()}
    waiting = [begin]
    at = 0
    while at < len(waiting):
        kind, mouth = waiting[at]
        piece = plan.pieces[kind]
        cares = cares_in(plan, letter, kind, mouth)
        for number, (below, _) in enumerate(piece.buds):
            state = (below, reduced(mouth_lengths(piece, number, cares)))
            if state not in rows:
                if len(rows) == MOST_STATES:
                    raise TooMany(MOST_STATES)
                rows[state] = rows[waiting[at]] + (number,)
                waiting.append(state)
        at += 1
    return rows


def new_cares(book, letter, rows, reduced):
    """The pairs (name, care) of the new places of the pieces at which states are met first."""
    found = []
    for kind, mouth in rows:
        cares = cares_in(book.plan, letter, kind, mouth)[book.plan.pieces[kind].mouth:]
        found.extend([((rows[(kind, mouth)], at), care) for at, care in enumerate(reduced(cares))])
    return found


def first_without(book, letter, reduced):
    """The first place without a care that is kept, shorter rows first, or None."""
    rows = first_rows(book, letter, reduced)
    for name, care in new_cares(book, letter, rows, reduced):
        if care is None:
            return Place(book, name[0], name[1])
    return None


def check_radius(radius):
    """Raise BadNumber for a value that is no integer from 0 on."""
    if not is_within(radius, 0, radius):
        raise BadNumber(radius)


def states(book, letter, radius):
    """The list of all different tuples (kind, cares) of the pieces of the web."""
    check_letter(letter)
    check_radius(radius)
    return list(first_rows(book, letter, lambda cares: held(cares, radius)))


def every(book, letter, radius):
    """None if each place has a care of at most radius, otherwise the first place that has none."""
    check_letter(letter)
    check_radius(radius)
    return first_without(book, letter, lambda cares: held(cares, radius))


def rows_of_kinds(plan):
    """The dict of the kinds that occur in the web to the first rows of such pieces."""
    rows = {plan.seed: ()}
    waiting = [plan.seed]
    at = 0
    while at < len(waiting):
        row = rows[waiting[at]]
        for number, (below, _) in enumerate(plan.pieces[waiting[at]].buds):
            if below not in rows:
                rows[below] = row + (number,)
                waiting.append(below)
        at += 1
    return rows


def bare_turn(book, letter):
    """A triple (head, part, turn) of a strand that leads to itself, without the letter inside; or None."""
    plan = book.plan
    lines = strand_lines(plan)
    turns = all_turns(lines, all_rows(lines))
    nears = near_tables(plan, letter)
    heads = rows_of_kinds(plan)
    for kind in heads:
        for part in part_tables(plan)[kind]:
            if (kind, part) in turns and nears[kind][MOUTH.index(part[0])] is None:
                return heads[kind], part, turns[(kind, part)]
    return None


def lonely(book, letter):
    """The Lonely of a letter in the web of a book."""
    check_letter(letter)
    spot = first_without(book, letter, known_only)
    if spot is not None:
        return Lonely("never", spot=spot)
    told = bare_turn(book, letter)
    if told is not None:
        return Lonely("endless", head=told[0], part=told[1], turn=told[2])
    rows = first_rows(book, letter, all_kept)
    cares = new_cares(book, letter, rows, all_kept)
    greatest = max([care for _, care in cares])
    row, number = [name for name, care in cares if care == greatest][0]
    return Lonely("most", radius=greatest, spot=Place(book, row, number))
