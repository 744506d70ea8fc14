"""Closed tables of leads for the tests, and what they tell, walked through plainly."""

import random

from growwebs.leads import Leads
from tests.plain_leads import fits, random_rules
from tests.webs import bare_books, random_books


def random_table(rng, book, rule):
    """A closed table that takes some string of colours for each key, or None."""
    leads = Leads(book, rule)
    if not leads.exists:
        return None
    low = leads.lowest().table
    table = dict(low)
    for _ in range(6):
        # One key gets another string that is right; all keys behind it are filled up again.
        for key in list(table):
            piece = book.pieces[key[0]]
            words = [""]
            for letter in piece.letters:
                words = [word + colour for word in words for colour in rule.letters.get(letter, rule.colours)]
            word = rng.choice(words)
            below = below_of(book, key, word)
            if is_fit(book, rule, key, word) and all(key[1] in leads.may(key[0]) for key in below):
                table[key] = word
        waiting = [(book.seed, "")]
        met = []
        while waiting:
            key = waiting.pop()
            met.append(key)
            if key not in table:
                table[key] = first_word(book, rule, leads, key)
            waiting.extend(below for below in below_of(book, key, table[key]) if below not in met + waiting)
    return table


def spot(piece, key, word, told):
    return key[1]["abc".index(told)] if isinstance(told, str) else word[told]


def below_of(book, key, word):
    piece = book.pieces[key[0]]
    return [(kind, "".join(spot(piece, key, word, told) for told in row)) for kind, row in piece.buds]


def is_fit(book, rule, key, word):
    piece = book.pieces[key[0]]
    return all(fits(rule, spot(piece, key, word, one), spot(piece, key, word, other)) for one, other, _ in piece.ties)


def first_word(book, rule, leads, key):
    words = [""]
    for letter in book.pieces[key[0]].letters:
        words = [word + colour for word in words for colour in rule.letters.get(letter, rule.colours)]
    return [word for word in words if is_fit(book, rule, key, word)
            and all(below[1] in leads.may(below[0]) for below in below_of(book, key, word))][0]


def plain_colours(book, table, depth):
    """The colours of all places to a depth, told by walking down through a table."""
    colours = {}
    waiting = [((), (book.seed, ""))]
    while waiting:
        row, key = waiting.pop()
        for number, colour in enumerate(table[key]):
            colours[(row, number)] = colour
        if len(row) < depth:
            waiting.extend((row + (number,), below) for number, below in enumerate(below_of(book, key, table[key])))
    return colours


def some_leads(seed, many):
    """Triples (book, rule, table) of random closed tables."""
    rng = random.Random(seed)
    for book, rule in zip(random_books(seed, many, (1,)) + bare_books(seed, many), random_rules(seed, 2 * many)):
        table = random_table(rng, book, rule)
        if table is not None:
            yield book, rule, table


def plain_counts(book, table, colour, most):
    """How many places have a colour at each depth to most, counted key by key, one depth after another."""
    belows = {}
    level = {(book.seed, ""): 1}
    counts = []
    for _ in range(most + 1):
        counts.append(sum(many * table[key].count(colour) for key, many in level.items()))
        deeper = {}
        for key, many in level.items():
            if key not in belows:
                belows[key] = below_of(book, key, table[key])
            for below in belows[key]:
                deeper[below] = deeper.get(below, 0) + many
        level = deeper
    return counts
