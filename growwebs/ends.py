"""Ends: along which endless rows the endless ways of a region run."""

from growwebs.checks import is_integers
from growwebs.distances import kinds_on, lengths_at, view_from
from growwebs.errors import BadWord, NoPiece, TooMany
from growwebs.growth import growth
from growwebs.leading import all_rows, all_turns
from growwebs.rows import first_of_row, kept_row
from growwebs.strands import entries_at, joined_parts_of, lane_tables, strand_lines
from growwebs.walks import walk

MOST_ENTRIES = 100
# More than there are pairs of a kind and a set of parts: after so many turns all goes round.
ENOUGH_TURNS = 60


class Ends:
    """How many ends a region has, and the endless rows (head, turn, many) if they can be listed."""

    def __init__(self, amount, rows):
        self.amount = amount
        self.rows = rows


def amount_of(degree):
    """Which of the four cases a degree stands for."""
    if degree is None:
        return "more"
    return ["none", "listed", "countable"][min(degree, 2)]


def shortest_word(word):
    """The shortest word that gives the word when it is written several times."""
    for size in range(1, len(word) + 1):
        if len(word) % size == 0 and word[:size] * (len(word) // size) == word:
            return word[:size]
    return word


def shortest_told(head, turn):
    """The endless row head, turn, turn, .. with as short a head as possible, then a short turn."""
    turn = shortest_word(turn)
    while head and head[-1] == turn[-1]:
        head = head[:-1]
        turn = turn[-1:] + turn[:-1]
    return head, turn


def entry_strands(place):
    """The pairs (row, strand) of all entries of a place."""
    view = view_from(place)
    kinds = kinds_on(view.plan, view.row)
    found = []
    for depth in range(len(kinds)):
        for bud, kind, part, _ in entries_at(view, kinds, depth):
            found.append((view.row[:depth] + (bud,), (kind, part)))
    return found


def listed_rows(place):
    """The triples (head, turn, many) of a region of degree 1, in the order of the endless rows."""
    lines = strand_lines(place.book.plan)
    rows = all_rows(lines)
    turns = all_turns(lines, rows)
    counts = {}
    waiting = entry_strands(place)
    while waiting:
        row, strand = waiting.pop()
        if strand in turns:
            # Of degree 1: from here on just one lane leads back, and each end is met once.
            told = shortest_told(row, turns[strand])
            counts[told] = counts.get(told, 0) + 1
            if len(counts) > MOST_ENTRIES:
                raise TooMany(MOST_ENTRIES)
            continue
        for bud, below in lines[strand]:
            if any([other in turns for other in rows[below]]):
                waiting.append((row + (bud,), below))
    return sorted_rows(counts)


def sorted_rows(counts):
    """The triples in the order of the endless rows; two that differ do so before they go round twice."""
    far = max([0] + [len(head) + 2 * len(turn) for head, turn in counts])
    triples = [(head, turn, counts[(head, turn)]) for head, turn in counts]
    return sorted(triples, key=lambda told: (told[0] + told[1] * far)[:far])


def ends(place):
    """The Ends of the region of a place."""
    amount = amount_of(growth(place).degree)
    return Ends(amount, listed_rows(place) if amount == "listed" else [])


def parts_behind(plan, kind, parts, word):
    """The pair (kind, parts) to which lanes lead from some parts of a kind by a word."""
    lanes = lane_tables(plan)
    for number in word:
        found = []
        for part in parts:
            found.extend([below for bud, _, below in lanes[(kind, part)] if bud == number])
        kind = plan.pieces[kind].buds[number][0]
        parts = sorted(set(found))
    return kind, parts


def goes_on_by(plan, kind, part, turn):
    """Whether lanes lead from a part by a turn, again and again."""
    parts = [part]
    for _ in range(ENOUGH_TURNS):
        kind, parts = parts_behind(plan, kind, parts, turn)
    return len(parts) > 0


def check_turns(plan, head, turn):
    """Raise an error for what is no endless row of the web: a head, and a turn again and again."""
    if not is_integers(head):
        raise NoPiece(head)
    if not is_integers(turn) or len(turn) == 0:
        raise BadWord(turn)
    # After as many turns as there are kinds, the kinds have come back to an earlier one.
    row = tuple(head) + tuple(turn) * (len(plan.pieces) + 1)
    kind, many = walk(plan, row)
    if kind is None:
        raise NoPiece(kept_row(first_of_row(row, many)))


def ends_along(place, head, turn):
    """How many ends of the region of a place run along the endless row head, turn, turn, .."""
    plan = place.book.plan
    check_turns(plan, head, turn)
    turn = tuple(turn)
    row = tuple(head)
    view = view_from(place)
    # Behind the place's own row nothing new comes up: each part has one further up to which it belongs.
    while len(row) <= len(view.row):
        row = row + turn
    kind = kinds_on(plan, row)[-1]
    parts = joined_parts_of(plan, kind, lengths_at(view, row))
    for _ in range(ENOUGH_TURNS):
        kind, parts = parts_behind(plan, kind, parts, turn)
    return len([part for part in parts if goes_on_by(plan, kind, part, turn)])
