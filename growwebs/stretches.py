"""Rows told by stretches: tuples of pairs (word, times), each word written so many times.

The words here are tuples that are not empty; a stretch with times 0 tells nothing.
"""

LONGEST_WORD = 40
MOST_TIMES = (10 ** 60) ** 5


class Runs:
    """Stretches that a call worked out: a Row takes them without looking at their number."""

    def __init__(self, pairs):
        self.pairs = pairs


def count_numbers(pairs):
    """How many numbers the row has."""
    return sum([len(word) * times for word, times in pairs])


def merged(pairs):
    """The same row without stretches that tell nothing, equal words side by side put together."""
    kept = []
    for word, times in pairs:
        if not word or times == 0:
            continue
        if kept and kept[-1][0] == word and kept[-1][1] + times <= MOST_TIMES:
            kept[-1] = (word, kept[-1][1] + times)
        else:
            kept.append((word, times))
    return tuple(kept)


def first_numbers(pairs, many):
    """The stretches of the first many numbers."""
    kept = []
    left = many
    for word, times in pairs:
        if len(word) * times <= left:
            kept.append((word, times))
            left = left - len(word) * times
        else:
            kept.append((word, left // len(word)))
            kept.append((word[:left % len(word)], 1))
            break
    return merged(kept)


def numbers_behind(pairs, many):
    """The stretches of all but the first many numbers."""
    kept = []
    left = many
    for word, times in pairs:
        size = len(word) * times
        if size <= left:
            left = left - size
            continue
        if left % len(word):
            kept.append((word[left % len(word):], 1))
        kept.append((word, times - (left + len(word) - 1) // len(word)))
        left = 0
    return merged(kept)


def number_at(pairs, index):
    """The number with an index that the row has."""
    left = index
    for word, times in pairs:
        if left < len(word) * times:
            return word[left % len(word)]
        left = left - len(word) * times
    return None


def spelled(pairs):
    """The row as a tuple, however long it is."""
    numbers = []
    for word, times in pairs:
        numbers.extend(list(word) * times)
    return tuple(numbers)


def agreeing(word, begun, other, other_begun, most):
    """How many numbers of two repeated words agree, at most most; each is begun somewhere."""
    for index in range(most):
        if word[(begun + index) % len(word)] != other[(other_begun + index) % len(other)]:
            return index
    return most


def count_common(pairs, other_pairs):
    """How many numbers from the first one on are the same in both rows."""
    at = other_at = begun = other_begun = total = 0
    while at < len(pairs) and other_at < len(other_pairs):
        word, times = pairs[at]
        other, other_times = other_pairs[other_at]
        size = len(word) * times
        other_size = len(other) * other_times
        span = min(size - begun, other_size - other_begun)
        # Two repeated words that agree over both their lengths agree for ever (Fine and Wilf).
        near = min(span, len(word) + len(other))
        same = agreeing(word, begun, other, other_begun, near)
        if same < near:
            return total + same
        total = total + span
        begun = begun + span
        other_begun = other_begun + span
        if begun == size:
            at, begun = at + 1, 0
        if other_begun == other_size:
            other_at, other_begun = other_at + 1, 0
    return total


def repeated_length(numbers, first, step):
    """How many numbers from first on are one word of step numbers, again and again in whole."""
    at = first + step
    while at < len(numbers) and numbers[at] == numbers[at - step]:
        at += 1
    return (at - first) // step * step


def packed(numbers):
    """Stretches for a row that is written out: what repeats is told once."""
    kept = []
    begun = at = 0
    while at < len(numbers):
        for step in range(1, LONGEST_WORD + 1):
            size = repeated_length(numbers, at, step)
            if size > LONGEST_WORD:
                kept.append((numbers[begun:at], 1))
                kept.append((numbers[at:at + step], size // step))
                begun = at = at + size
                break
        else:
            at += 1
            if at - begun == LONGEST_WORD:
                kept.append((numbers[begun:at], 1))
                begun = at
    kept.append((numbers[begun:], 1))
    return merged(kept)
