"""Graphs of few nodes: what leads to what, by which rows, and what leads back to itself.

Lines are a dict from nodes to lists of pairs (number, node): a step to the node, with a number.
"""


def rows_from(lines, start):
    """The shortest rows of numbers by which a node leads to others, the empty one to itself."""
    rows = {start: ()}
    waiting = [start]
    at = 0
    while at < len(waiting):
        here = waiting[at]
        for number, node in lines[here]:
            if node not in rows:
                rows[node] = rows[here] + (number,)
                waiting.append(node)
        at += 1
    return rows


def all_rows(lines):
    """rows_from for all nodes."""
    return {node: rows_from(lines, node) for node in lines}


def turn_of(lines, rows, node):
    """The shortest row, not empty, by which a node leads to itself, or None."""
    best = None
    for number, below in lines[node]:
        if node in rows[below] and (best is None or len(rows[below][node]) + 1 < len(best)):
            best = (number,) + rows[below][node]
    return best


def all_turns(lines, rows):
    """The turns of all nodes that lead to themselves."""
    turns = {node: turn_of(lines, rows, node) for node in lines}
    return {node: turns[node] for node in turns if turns[node] is not None}


def longest_chains(rows, turns):
    """For each node with a turn the longest list of such nodes, each leading on, none back."""
    chains = {}
    waiting = sorted([(-len(rows[node]), at, node) for at, node in enumerate(list(turns))])
    # What a node leads to without a way back leads to less: so it comes ahead here.
    for _, _, node in waiting[::-1]:
        best = []
        for below in turns:
            if below in rows[node] and node not in rows[below] and len(chains[below]) > len(best):
                best = chains[below]
        chains[node] = [node] + best
    return chains
