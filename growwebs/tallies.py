"""Tallies: how many places are at each distance from a place, counted by its stands."""


class Tally:
    """How many of the places that are counted are at each distance.

    near has a dict from distances to numbers of places, own one for each stand from times to
    numbers, entries one from pairs (shift, stand) to how many entries have them. For each time
    below has, for each stand, how many places it has then, and spheres the number of the whole.
    """

    def __init__(self, near, entries, own, arrows):
        self.near = near
        self.entries = entries
        self.own = own
        self.arrows = arrows
        self.order = settled_order(arrows)
        self.below = []
        self.spheres = []


def settled_order(arrows):
    """The stands, each behind those to which its arrows lead without a shift."""
    order = []
    done = {}
    # Arrows without a shift hand places on, and that comes to an end: so nothing goes in a ring.
    while len(order) < len(arrows):
        for stand in range(len(arrows)):
            ahead = [number for _, shift, number in arrows[stand] if shift == 0]
            if stand not in done and all([number in done for number in ahead]):
                done[stand] = True
                order.append(stand)
    return order


def add_time(tally):
    """Count for one time more."""
    time = len(tally.below)
    counts = [0 for _ in tally.arrows]
    tally.below.append(counts)
    for stand in tally.order:
        total = tally.own[stand].get(time, 0)
        for _, shift, number in tally.arrows[stand]:
            if shift <= time:
                total = total + tally.below[time - shift][number]
        counts[stand] = total
    whole = tally.near.get(time, 0)
    for shift, stand in tally.entries:
        if shift <= time:
            whole = whole + tally.entries[(shift, stand)] * tally.below[time - shift][stand]
    tally.spheres.append(whole)


def counted(tally, time):
    """The tally, counted at least to a time."""
    while len(tally.below) <= time:
        add_time(tally)
    return tally


def stand_count(tally, stand, time):
    """How many places a stand has at a time, which may be less than 0."""
    if time < 0:
        return 0
    return counted(tally, time).below[time][stand]


def count_at(tally, time):
    """How many places are at a distance."""
    return counted(tally, time).spheres[time]


def count_within(tally, time):
    """How many places are at a distance or nearer."""
    return sum(counted(tally, time).spheres[:time + 1])
