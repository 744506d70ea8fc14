"""Routes: ways that are told step by step, with ways through kinds that are told once."""

from growwebs.books import check_book
from growwebs.checks import is_integers, is_list, is_within
from growwebs.copies import copied
from growwebs.errors import NotJoined
from growwebs.lengths import lines_by_place, links_of, shortest_from, stretch_tables
from growwebs.patches import Patch, links_on, row_of, spot_in
from growwebs.pieces import MOUTH, is_place, places_of
from growwebs.walks import name_of, names_below
from growwebs.ways import name_of_place


class Route:
    """Steps along ties and within buds, and for triples (kind, letter, letter) lists of steps."""

    def __init__(self, steps, kinds):
        self.steps = copied(steps)
        self.kinds = copied(kinds)


class Walker:
    """Looks after the steps of a route through the web of a book."""

    def __init__(self, plan, kinds):
        self.plan = plan
        self.kinds = kinds
        self.pieces = {(): (plan.seed, {})}
        self.inner = {}


def tie_length(piece, one, other):
    """The length of the tie of two told places of a piece, None if there is none."""
    for told in (one, other):
        if not is_place(told, piece.mouth, len(piece.letters)):
            return None
    for first, second, length in piece.ties:
        if (first, second) == (one, other) or (first, second) == (other, one):
            return length
    return None


def bud_letters(plan, piece, number, one, other):
    """The kind of a bud, if one and other are different letters of its mouth, or None."""
    if not is_within(number, 0, len(piece.buds) - 1):
        return None
    kind = piece.buds[number][0]
    mouth = plan.pieces[kind].mouth
    for letter in (one, other):
        if not isinstance(letter, str) or not is_place(letter, mouth, 0):
            return None
    return None if one == other else kind


def step_in(walker, piece, step):
    """The triple (length, place, place) of a step in a piece, without its row; or None."""
    if len(step) not in (2, 3):
        return None
    if len(step) == 2:
        length = tie_length(piece, step[0], step[1])
        return None if length is None else (length, step[0], step[1])
    number, one, other = step
    kind = bud_letters(walker.plan, piece, number, one, other)
    if kind is None:
        return None
    length = length_within(walker, (kind, min(one, other), max(one, other)))
    if length is None:
        return None
    told = piece.buds[number][1]
    return (length, told[MOUTH.index(one)], told[MOUTH.index(other)])


def length_within(walker, triple):
    """The length of what the route tells for a triple, None if it tells nothing that is right."""
    if triple not in walker.inner:
        # What is asked for itself again before it is known goes in a ring.
        walker.inner[triple] = None
        walker.inner[triple] = added_within(walker, triple)
    return walker.inner[triple]


def added_within(walker, triple):
    """The sum of the lengths of the steps of a triple, if they lead from letter to letter."""
    kind, here, goal = triple
    steps = walker.kinds.get(triple)
    if not is_list(steps):
        return None
    total = 0
    for step in steps:
        if not is_list(step):
            return None
        told = step_in(walker, walker.plan.pieces[kind], step)
        if told is None or told[1] != here:
            return None
        total = total + told[0]
        here = told[2]
    return total if here == goal else None


def piece_of_row(walker, row):
    """The pair (kind, names of the mouth places) at a row, None if no piece is there."""
    depth = len(row)
    while row[:depth] not in walker.pieces:
        depth = depth - 1
    while depth < len(row):
        kind, names = walker.pieces[row[:depth]]
        piece = walker.plan.pieces[kind]
        number = row[depth]
        if not 0 <= number < len(piece.buds):
            return None
        below = names_below(piece, number, row[:depth], names)
        depth = depth + 1
        walker.pieces[row[:depth]] = (piece.buds[number][0], below)
    return walker.pieces[row]


def without_row(step):
    """A step of a route without its row."""
    told = tuple(step[1:])
    # The document's example tells the number of the bud twice: ((), 0, 0, "a", "b").
    if len(told) == 4 and is_integers(told[:2]) and told[0] == told[1]:
        return told[1:]
    return told


def step_on(walker, step):
    """The triple (length, name, name) of a step of a route, or None."""
    if not is_list(step) or not 3 <= len(step) <= 5 or not is_integers(step[0]):
        return None
    row = tuple(step[0])
    found = piece_of_row(walker, row)
    if found is None:
        return None
    kind, names = found
    told = step_in(walker, walker.plan.pieces[kind], without_row(step))
    if told is None:
        return None
    length, one, other = told
    return (length, name_of(row, names, one), name_of(row, names, other))


def route_length(one, other, route):
    """The length of the way that a Route tells from one to other, None if it tells none."""
    check_book(one.book, other)
    if not isinstance(route, Route) or not is_list(route.steps):
        return None
    if not isinstance(route.kinds, dict):
        return None
    walker = Walker(one.book.plan, route.kinds)
    here = name_of_place(one)
    total = 0
    for step in route.steps:
        told = step_on(walker, step)
        if told is None or told[1] != here:
            return None
        total = total + told[0]
        here = told[2]
    return total if here == name_of_place(other) else None


def links_by_place(many, links):
    """For each place the list of (other place, length, step from there) of the links."""
    found = [[] for _ in range(many)]
    for one, other, stretch, step in links:
        found[one].append((other, stretch[0], step))
        found[other].append((one, stretch[0], turned_step(step)))
    return found


def turned_step(step):
    """A step the other way about; its last two say from where and to where."""
    if isinstance(step[-1], tuple):
        return step[:-1] + (turned_step(step[-1]),)
    return step[:-2] + (step[-1], step[-2])


def shortest_steps(many, links, start, goal, barred):
    """The steps of a shortest way through some links, None if there is no way."""
    values = shortest_from(lines_by_place(many, links), goal, barred)
    if values[start] is None:
        return None
    ahead = links_by_place(many, links)
    steps = []
    here = start
    while here != goal:
        for place, length, step in ahead[here]:
            if place in barred and place != goal:
                continue
            if values[place] is not None and values[place][0] + length == values[here][0]:
                steps.append(step)
                here = place
                break
    return steps


def inner_steps(plan, triple):
    """The steps in the piece of a kind from letter to letter, by no other mouth place."""
    piece = plan.pieces[triple[0]]
    links = links_of(piece, stretch_tables(plan))
    start, goal = MOUTH.index(triple[1]), MOUTH.index(triple[2])
    mouth = list(range(piece.mouth))
    return shortest_steps(len(places_of(piece)), links, start, goal, mouth)


def triples_of(piece, steps):
    """The triples that steps in a piece, without rows, need."""
    found = []
    for step in steps:
        if len(step) == 3:
            number, one, other = step
            found.append((piece.buds[number][0], min(one, other), max(one, other)))
    return found


def told_kinds(plan, waiting):
    """The steps of all triples that are needed, those within others too."""
    kinds = {}
    while waiting:
        triple = waiting.pop()
        if triple not in kinds:
            kinds[triple] = inner_steps(plan, triple)
            waiting.extend(triples_of(plan.pieces[triple[0]], kinds[triple]))
    return kinds


def route(one, other):
    """A Route whose length is the distance."""
    check_book(one.book, other)
    plan = one.book.plan
    begin, end = name_of_place(one), name_of_place(other)
    patch = Patch(plan, [begin[0], end[0]])
    start, goal = spot_in(patch, begin[0], begin[1]), spot_in(patch, end[0], end[1])
    found = shortest_steps(len(patch.homes), links_on(patch), start, goal, ())
    if found is None:
        raise NotJoined()
    rows = {}
    waiting = []
    steps = []
    for at, step in found:
        if at not in rows:
            rows[at] = row_of(patch, at)
        steps.append((rows[at],) + step)
        waiting.extend(triples_of(plan.pieces[patch.kinds[at]], [step]))
    return Route(steps, told_kinds(plan, waiting))
