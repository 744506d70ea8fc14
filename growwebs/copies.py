"""Copies of values that are lists, tuples and dicts within one another."""


def copied(value):
    """The same value with new lists and dicts."""
    if isinstance(value, list):
        return [copied(entry) for entry in value]
    if isinstance(value, tuple):
        # Rows are long and stand in many steps; nothing in a tuple of numbers could be changed.
        if not any([isinstance(entry, (list, tuple, dict)) for entry in value]):
            return value
        return tuple([copied(entry) for entry in value])
    if isinstance(value, dict):
        return {key: copied(value[key]) for key in value}
    return value
