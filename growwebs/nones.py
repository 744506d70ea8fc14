"""Integers and None, where None counts as greater than each integer."""


def sum_of(one, other):
    """The sum of two values, None if one of them is None."""
    if one is None or other is None:
        return None
    return one + other


def lesser_of(one, other):
    """The lesser one of two values."""
    if one is None or (other is not None and other < one):
        return other
    return one


def is_less(one, other):
    """Whether the one value is less than the other one."""
    return one is not None and (other is None or one < other)
