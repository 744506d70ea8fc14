"""Tallies: how many places are at each distance from a place, counted by its stands."""


class Tally:
    """How many of the places that are counted are at each distance.

    near is a dict from distances to numbers of places, own has one for each stand from times to
    numbers, entries is one from pairs (shift, stand) to how many entries have them. timed has for
    each time a list of how many places each stand has then, spheres how many all have.
    """

    def __init__(self, near, entries, own, arrows):
        self.near = near
        self.entries = entries
        self.own = own
        self.arrows = arrows
        self.order = settled_order(arrows)
        self.timed = []
        self.spheres = []


def settled_order(arrows):
    """The stands, each behind those to which its arrows lead without a shift."""
    order = []
    done = {}
    # Arrows without a shift hand places on, and that comes to an end: so nothing goes in a ring.
    while len(order) < len(arrows):
        for stand in range(len(arrows)):
            ahead = [number for _, shift, number in arrows[stand] if shift == 0]
            if stand not in done and all([number in done for number in ahead]):
                done[stand] = True
                order.append(stand)
    return order


def add_time(tally):
    """Count for one time more."""
    time = len(tally.timed)
    counts = [0 for _ in tally.arrows]
    tally.timed.append(counts)
    for stand in tally.order:
        total = tally.own[stand].get(time, 0)
        for _, shift, number in tally.arrows[stand]:
            if shift <= time:
                total = total + tally.timed[time - shift][number]
        counts[stand] = total
    whole = tally.near.get(time, 0)
    for shift, stand in tally.entries:
        if shift <= time:
            whole = whole + tally.entries[(shift, stand)] * tally.timed[time - shift][stand]
    tally.spheres.append(whole)


def counted(tally, time):
    """The tally, counted at least to a time."""
    while len(tally.timed) <= time:
        add_time(tally)
    return tally


def stand_count(tally, stand, time):
    """How many places a stand has at a time, which may be less than 0."""
    if time < 0:
        return 0
    return counted(tally, time).timed[time][stand]


def count_at(tally, time):
    """How many places are at a distance."""
    return counted(tally, time).spheres[time]


def count_within(tally, time):
    """How many places are at a distance or nearer."""
    return sum(counted(tally, time).spheres[:time + 1])
