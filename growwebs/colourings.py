"""The colourings of one piece by a rule, given the colours of its mouth places.

While a piece is coloured, a state is a string: the colours of the places so far, the mouth places
first, where those that nothing asks for any more have a sign of their own.
"""

from growwebs.pieces import places_of, spot_of

FORGOTTEN = "-"


def words_of(signs, many):
    """All strings of so many signs, ascending if the signs are."""
    words = [""]
    for _ in range(many):
        words = [word + sign for word in words for sign in signs]
    return words


def neighbours_of(rule):
    """For each colour the string of those that may stand beside it."""
    beside = {colour: "" for colour in rule.colours}
    for one, other in rule.beside:
        beside[one] = beside[one] + other
        if one != other:
            beside[other] = beside[other] + one
    return beside


def may_have(rule, letter):
    """The colours that a place with a letter may have."""
    return rule.letters.get(letter, rule.colours)


def tied_ahead(piece):
    """For each place of a piece the list of the places ahead of it to which it is tied."""
    ahead = [[] for _ in places_of(piece)]
    for one, other, _ in piece.ties:
        low, high = sorted([spot_of(piece, one), spot_of(piece, other)])
        ahead[high].append(low)
    return ahead


def forgotten_at(piece, kept):
    """For each place the list of those that nothing asks for any more once it is coloured."""
    places = places_of(piece)
    last = list(range(len(places)))
    for high, ahead in enumerate(tied_ahead(piece)):
        for low in ahead:
            last[low] = max(last[low], high)
    asked = list(kept) + [spot_of(piece, told) for _, row in piece.buds for told in row]
    drops = [[] for _ in places]
    for spot in range(piece.mouth, len(places)):
        if spot not in asked:
            drops[last[spot]].append(spot)
    return drops


def coloured_on(states, colours, ahead, beside, drops):
    """The states when one place more is coloured, each with (how many colourings, the first one)."""
    found = {}
    for state in states:
        many, first = states[state]
        for colour in colours:
            if not all([state[spot] in beside[colour] for spot in ahead]):
                continue
            told = state + colour
            for spot in drops:
                told = told[:spot] + FORGOTTEN + told[spot + 1:]
            if told in found:
                found[told] = (found[told][0] + many, min(found[told][1], first + colour))
            else:
                found[told] = (many, first + colour)
    return found


def all_states(piece, rule, mouth, kept):
    """The states of a piece that is coloured, for the colours of its mouth."""
    beside = neighbours_of(rule)
    ahead = tied_ahead(piece)
    drops = forgotten_at(piece, kept)
    states = {mouth: (1, "")}
    for number, letter in enumerate(piece.letters):
        spot = piece.mouth + number
        states = coloured_on(states, may_have(rule, letter), ahead[spot], beside, drops[spot])
    return states


def colours_at(piece, state, row):
    """The colours of the places of a row in a state."""
    return "".join([state[spot_of(piece, told)] for told in row])


def options_of(plan, rule, key, kept=()):
    """The list of (keys of the buds, colours of the kept places, how many colourings, the first)."""
    kind, mouth = key
    piece = plan.pieces[kind]
    states = all_states(piece, rule, mouth, kept)
    options = []
    for state in states:
        # Nothing else is left in a state than what buds and kept places have: so no option comes twice.
        below = tuple([(bud, colours_at(piece, state, row)) for bud, row in piece.buds])
        options.append((below, "".join([state[spot] for spot in kept])) + states[state])
    return options


def is_right(piece, rule, mouth, value):
    """Whether any value is a string of colours of the new places by which a piece is right."""
    if not isinstance(value, str) or len(value) != len(piece.letters):
        return False
    if not all([sign in may_have(rule, letter) for sign, letter in zip(value, piece.letters)]):
        return False
    beside = neighbours_of(rule)
    state = mouth + value
    for spot, ahead in enumerate(tied_ahead(piece)):
        if not all([state[other] in beside[state[spot]] for other in ahead]):
            return False
    return True
