"""What a value must be to be taken: the questions that arguments are asked."""

ALPHABET = "abcdefghijklmnopqrstuvwxyz"
LONGEST_WORD = 8


def is_integer(value):
    """Whether the value is an integer; True and False are none."""
    return isinstance(value, int) and not isinstance(value, bool)


def is_within(value, least, most):
    """Whether the value is an integer from least to most."""
    return is_integer(value) and least <= value <= most


def is_list(value):
    """Whether the value is a list or a tuple, which may stand for each other."""
    return isinstance(value, (list, tuple))


def is_pair(value):
    """Whether the value is a list or a tuple of two."""
    return is_list(value) and len(value) == 2


def is_integers(value):
    """Whether the value is a list or a tuple of integers only."""
    return is_list(value) and all([is_integer(entry) for entry in value])


def is_word(value):
    """Whether the value is a string of 1 to 8 letters from a to z."""
    if not isinstance(value, str) or not 1 <= len(value) <= LONGEST_WORD:
        return False
    return all([sign in ALPHABET for sign in value])
