"""Finding an entry in an ascending list, and what two lists have in common."""


def index_at(entries, number):
    """The index of the last entry that begins at number or ahead; the first one begins at 0."""
    low = 0
    high = len(entries)
    while high - low > 1:
        middle = (low + high) // 2
        if entries[middle][0] <= number:
            low = middle
        else:
            high = middle
    return low


def common_length(one, other):
    """How many entries from the first one on are the same in both lists."""
    size = 0
    while size < min(len(one), len(other)) and one[size] == other[size]:
        size += 1
    return size
