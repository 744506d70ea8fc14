"""Closed tables: what has been settled for each key that is met, so that all of a web is settled."""

from growwebs.errors import BadTable
from growwebs.rows import plain_stretches
from growwebs.walks import left_out


def met_values(seed, table, settled):
    """The pair of dicts from met keys, in their order, to values, and to the tuples of the buds' keys.

    The function settled tells for a key and its value the pair of both, None for a value that is not
    right. BadTable is raised for the first met key that has no right value.
    """
    start = (seed, "")
    if not isinstance(table, dict):
        raise BadTable(start)
    values = {}
    belows = {}
    met = {start: True}
    waiting = [start]
    at = 0
    while at < len(waiting):
        key = waiting[at]
        told = settled(key, table[key]) if key in table else None
        if told is None:
            raise BadTable(key)
        values[key], belows[key] = told
        for below in belows[key]:
            if below not in met:
                met[below] = True
                waiting.append(below)
        at += 1
    return values, belows


def key_at(belows, start, row):
    """The key of the piece at a row of any length."""
    key = start
    for word, times in plain_stretches(row):
        seen = {}
        done = 0
        while done < times:
            done = left_out(seen, key, done, times)
            if done == times:
                break
            seen[key] = done
            for number in word:
                key = belows[key][number]
            done = done + 1
    return key


def keys_with_rows(belows, start):
    """The pairs (row, key) of all met keys, each with the first row at which it is met."""
    rows = {start: ()}
    waiting = [start]
    at = 0
    while at < len(waiting):
        key = waiting[at]
        for number, below in enumerate(belows[key]):
            if below not in rows:
                rows[below] = rows[key] + (number,)
                waiting.append(below)
        at += 1
    return [(rows[key], key) for key in waiting]
