"""Climbs: the lengths from the mouth at the one end of a row of buds to the mouth at its other end.

A climb is a triple (across, down, kind) for a row of buds from a kind on, told within what grows
from that kind: the table of the lengths between the mouth places of the piece at the row's end,
the table of those from the mouth places of the kind to them, and the kind of the piece at the end.
Rows are told by stretches here.
"""

from growwebs.lengths import length_tables
from growwebs.pieces import spot_of
from growwebs.powers import idle, least_table, power, product, turned_table


def still(plan, kind):
    """The climb of the empty row."""
    many = plan.pieces[kind].mouth
    return ([row[:many] for row in length_tables(plan)[kind][:many]], idle(many), kind)


def climb_of_bud(plan, kind, number):
    """The climb of one bud."""
    piece = plan.pieces[kind]
    below, told = piece.buds[number]
    table = length_tables(plan)[kind]
    spots = [spot_of(piece, place) for place in told]
    across = [[table[one][other] for other in spots] for one in spots]
    down = [[row[spot] for spot in spots] for row in table[:piece.mouth]]
    return (across, down, below)


def bud_climb(plan, kind, number):
    """The climb of one bud, worked out once."""
    key = ("climb", kind, number)
    if key not in plan.tables:
        plan.tables[key] = climb_of_bud(plan, kind, number)
    return plan.tables[key]


def carried(across, down):
    """The lengths between the places at the end of down, by those between the places ahead."""
    return product(turned_table(down), product(across, down))


def gone_on(climb, later):
    """The climb of a row and then of another one."""
    across, down, _ = climb
    if not across:
        return later
    new = least_table(later[0], carried(across, later[1]))
    return (new, product(down, later[1]), later[2])


def climbed_word(plan, kind, word):
    """The climb of a word."""
    climb = still(plan, kind)
    for number in word:
        climb = gone_on(climb, bud_climb(plan, climb[2], number))
    return climb


def repeated(climb, times):
    """The climb of a row that leads back to its kind, so many times."""
    across, down, kind = climb
    found = across
    for _ in range(times - 1):
        new = least_table(across, carried(found, down))
        # What does not become less once does so never again: this takes no more than ten rounds.
        if new == found:
            break
        found = new
    return (found, power(down, times), kind)


def climbed_times(plan, kind, word, times):
    """The climb of a word that stands so many times."""
    climb = still(plan, kind)
    seen = {}
    done = 0
    while done < times:
        here = climb[2]
        if here in seen:
            around = done - seen[here]
            whole = (times - done) // around
            if whole > 0:
                ring = climbed_word(plan, here, word * around)
                climb = gone_on(climb, repeated(ring, whole))
                done = done + whole * around
                continue
        seen[here] = done
        climb = gone_on(climb, climbed_word(plan, here, word))
        done = done + 1
    return climb


def climbed(plan, kind, pairs):
    """The climb of a row from a kind on."""
    climb = still(plan, kind)
    for word, times in pairs:
        if word and times > 0:
            climb = gone_on(climb, climbed_times(plan, climb[2], word, times))
    return climb
