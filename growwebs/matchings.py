"""The ways to pair the places of one piece, along its ties and inside of its buds.

A way is a pair (ties, insides): the ascending numbers of the ties that are used, and for each bud the
letters, ascending, of its mouth places that are paired within what grows there.
"""

from growwebs.checks import is_integer, is_list, is_pair
from growwebs.pieces import MOUTH, hanging_at, places_of, spot_of


def tie_choices(piece):
    """All pairs (numbers of ties no two of which meet, which places they meet)."""
    chosen = [((), tuple([False for _ in places_of(piece)]))]
    for number, (one, other, _) in enumerate(piece.ties):
        spots = (spot_of(piece, one), spot_of(piece, other))
        added = []
        for ties, met in chosen:
            if not met[spots[0]] and not met[spots[1]]:
                added.append((ties + (number,), tuple([old or at in spots for at, old in enumerate(met)])))
        chosen.extend(added)
    return chosen


def bud_choices(piece, met):
    """All pairs (letters for each bud, letters of the mouth) for the places that no used tie meets.

    Each new one of them is put into one bud, each mouth place into one or none.
    """
    taken = "".join([letter for letter, old in zip(MOUTH[:piece.mouth], met) if old])
    chosen = [(tuple(["" for _ in piece.buds]), taken)]
    for told, old in zip(places_of(piece), met):
        if old:
            continue
        following = []
        for insides, letters in chosen:
            own = letters
            if isinstance(told, str):
                following.append((insides, letters))
                own = letters + told
            for bud, _, letter in hanging_at(piece, told):
                put = insides[:bud] + (insides[bud] + letter,) + insides[bud + 1:]
                following.append((put, own))
        chosen = following
    return chosen


def sorted_signs(signs):
    """The signs of a string, ascending."""
    return "".join(sorted(signs))


def all_pairings(plan):
    """For each key (kind, letters) the ascending list of options (keys of the buds, way)."""
    found = {}
    for kind in plan.pieces:
        for letters in subsets_of(MOUTH[:plan.pieces[kind].mouth]):
            found[(kind, letters)] = []
    for kind in plan.pieces:
        piece = plan.pieces[kind]
        for ties, met in tie_choices(piece):
            for insides, letters in bud_choices(piece, met):
                told = tuple([sorted_signs(inside) for inside in insides])
                found[(kind, sorted_signs(letters))].append((keys_of(piece, told), (ties, told)))
    return {key: sorted(found[key], key=lambda option: option[1]) for key in found}


def subsets_of(letters):
    """All strings of some letters, each at most once, ascending."""
    words = [""]
    for letter in letters:
        words = words + [word + letter for word in words]
    return sorted(words)


def keys_of(piece, insides):
    """The keys of the buds of a piece, of the letters paired inside of each."""
    return tuple([(kind, inside) for (kind, _), inside in zip(piece.buds, insides)])


def are_tie_numbers(piece, value):
    """Whether any value is a list of numbers of ties of a piece, ascending."""
    if not is_list(value):
        return False
    for at, number in enumerate(value):
        if not is_integer(number) or not 0 <= number < len(piece.ties):
            return False
        if at > 0 and value[at - 1] >= number:
            return False
    return True


def are_insides(piece, value):
    """Whether any value is a list with a string of letters for each bud of a piece."""
    if not is_list(value) or len(value) != len(piece.buds):
        return False
    for inside, (_, row) in zip(value, piece.buds):
        if not isinstance(inside, str) or inside not in subsets_of(MOUTH[:len(row)]):
            return False
    return True


def settled_way(piece, letters, value):
    """The way that any value is, in tuples, if it is right for letters of a piece's mouth, else None."""
    if not is_pair(value) or not are_tie_numbers(piece, value[0]) or not are_insides(piece, value[1]):
        return None
    met = [told for number in value[0] for told in piece.ties[number][:2]]
    for inside, (_, row) in zip(value[1], piece.buds):
        met.extend([row[MOUTH.index(letter)] for letter in inside])
    wanted = [told for told in places_of(piece) if not isinstance(told, str) or told in letters]
    if len(met) != len(wanted) or not all([told in met for told in wanted]):
        return None
    return tuple(value[0]), tuple(value[1])


def cover_of(piece, way, told):
    """What pairs a place: (number of the tie, None), or (number of the bud, its letter)."""
    for number in way[0]:
        if told in piece.ties[number][:2]:
            return number, None
    for bud, _, letter in hanging_at(piece, told):
        if letter in way[1][bud]:
            return bud, letter
    return None
