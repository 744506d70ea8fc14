"""How many leads there are.

Options of a key are tuples (keys of the buds, colours of kept places, how many colourings, the first).
"""

from growwebs.choices import led_to, met_options


def keys_under(options):
    """All keys of buds in some options."""
    return [below for option in options for below in option[0]]


def free_keys(alive):
    """The lines among those keys from which one comes to a key with more than one colouring.

    What grows from all other keys has just one lead; where free keys go round, there is no end.
    """
    followers = {key: keys_under(alive[key]) for key in alive}
    choosing = [key for key in alive if sum([option[2] for option in alive[key]]) > 1]
    free = led_to(followers, choosing)
    return {key: [below for below in followers[key] if below in free] for key in followers if key in free}


def product_of(numbers):
    """The product of some numbers."""
    total = 1
    for number in numbers:
        total = total * number
    return total


def counted(options, ways, modulo):
    """How many colourings some options have, given those of the keys below."""
    return sum([option[2] * product_of([ways[below] for below in option[0]]) for option in options]) % modulo


def count_leads(alive, free, start, modulo):
    """How many leads there are, modulo a number; no free key goes round."""
    ways = {key: 1 for key in alive if key not in free}
    waiting = list(free)
    while waiting:
        later = []
        for key in waiting:
            if all([below in ways for below in free[key]]):
                ways[key] = counted(alive[key], ways, modulo)
            else:
                later.append(key)
        waiting = later
    return ways[start] % modulo


def tree_of(options, numbers):
    """The options by the numbers of their buds' keys, one after another: how many, in dicts in dicts."""
    if not options or not options[0][0]:
        return sum([option[2] for option in options])
    tree = {}
    for option in options:
        spot = tree
        for below in option[0][:-1]:
            spot = spot.setdefault(numbers[below], {})
        last = numbers[option[0][-1]]
        spot[last] = spot.get(last, 0) + option[2]
    return tree


def summed(tree, buds, ways):
    """How many colourings the options of a tree have, given those of the keys below."""
    if isinstance(tree, int):
        return tree
    if buds == 1:
        return sum([ways[number] * tree[number] for number in tree])
    return sum([ways[number] * summed(tree[number], buds - 1, ways) for number in tree])


def count_to_depth(options, start, depth, modulo):
    """In how many ways the web of a depth can be coloured, modulo a number."""
    met = met_options(options, start)
    numbers = {key: number for number, key in enumerate(list(met))}
    trees = []
    for key in met:
        buds = len(met[key][0][0]) if met[key] else 0
        trees.append((tree_of(met[key], numbers), buds))
    ways = [1 for _ in trees]
    for _ in range(depth + 1):
        ways = [summed(tree, buds, ways) % modulo for tree, buds in trees]
    return ways[numbers[start]]
