"""Finding an entry in an ascending list."""


def index_at(entries, number):
    """The index of the last entry that begins at number or ahead; the first one begins at 0."""
    low = 0
    high = len(entries)
    while high - low > 1:
        middle = (low + high) // 2
        if entries[middle][0] <= number:
            low = middle
        else:
            high = middle
    return low
