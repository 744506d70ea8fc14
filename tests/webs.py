"""Books for the tests, and a plain web that is grown and searched without the package's help."""

import heapq
import random

from growwebs.books import Book
from growwebs.errors import WebError
from growwebs.pieces import Piece


def ladder():
    return Book("base", {
        "base": Piece(0, "..", [(0, 1, 1)], [("rung", (0, 1))]),
        "rung": Piece(2, "..", [("a", 0, 1), ("b", 1, 1), (0, 1, 1)], [("rung", (0, 1))])})


def tent():
    return Book("s", {
        "s": Piece(0, "..", [(0, 1, 1)], [("k", (0, 1))]),
        "k": Piece(2, ".", [("a", 0, 1), ("b", 0, 1)])})


def rails():
    return Book("gate", {
        "gate": Piece(0, "..", [(0, 1, 1)], [("rail", (0, 1))]),
        "rail": Piece(2, "..", [("a", 0, 1), ("b", 1, 2)], [("rail", (0, 1))])})


def twigs():
    return Book("root", {
        "root": Piece(0, ".", [], [("t", (0,))]),
        "t": Piece(1, "..", [("a", 0, 1), ("a", 1, 2)], [("t", (0,)), ("t", (1,))])})


def hander():
    """A book whose places are handed on over several pieces, with other letters at each."""
    return Book("s", {
        "s": Piece(0, "xyz", [(0, 1, 5), (1, 2, 7)], [("p", (2, 0, 1)), ("q", (1,))]),
        "p": Piece(3, "u", [("a", 0, 1), ("c", 0, 2)],
                   [("r", ("c", "a")), ("q", ("b",)), ("r", (0, "b"))]),
        "r": Piece(2, "v.", [("b", 0, 3), (0, 1, 4)], [("q", ("b",)), ("p", (0, 1, "b"))]),
        "q": Piece(1, ".", [("a", 0, 9)])})


class PlainWeb:
    """The pieces to a depth that grow from a kind, with everything written out."""

    def __init__(self, pieces, kind, depth):
        self.told = {}
        self.lies = {}
        self.letters = {}
        self.ties = {}
        self.kinds = {}
        mouth = {letter: ("mouth", letter) for letter in "abc"[:pieces[kind].mouth]}
        for name in mouth.values():
            self.ties[name] = {}
            self.lies[name] = []
        self._grow(pieces, kind, (), mouth, depth)

    def _grow(self, pieces, kind, row, mouth, depth):
        piece = pieces[kind]
        self.kinds[row] = kind
        names = dict(mouth)
        for number, letter in enumerate(piece.letters):
            names[number] = (row, number)
            self.letters[(row, number)] = letter
            self.ties[(row, number)] = {}
            self.lies[(row, number)] = []
        for told, name in names.items():
            self.told[(row, told)] = name
            self.lies[name].append(row)
        for one, other, length in piece.ties:
            self.ties[names[one]][names[other]] = length
            self.ties[names[other]][names[one]] = length
        if depth > 0:
            for number, (below, places) in enumerate(piece.buds):
                under = {letter: names[told] for letter, told in zip("abc", places)}
                self._grow(pieces, below, row + (number,), under, depth - 1)

    def search(self, start, barred=()):
        """For each place that is reached the pair (distance, how many shortest ways)."""
        found = {start: (0, 1)}
        closed = set()
        queue = [(0, repr(start), start)]
        while queue:
            length, _, name = heapq.heappop(queue)
            if name in closed:
                continue
            closed.add(name)
            if name in barred and name != start:
                continue
            for other, add in self.ties[name].items():
                far = length + add
                if other not in found or far < found[other][0]:
                    found[other] = (far, found[name][1])
                    heapq.heappush(queue, (far, repr(other), other))
                elif far == found[other][0]:
                    found[other] = (far, found[other][1] + found[name][1])
        return found


    def ways(self, one, other):
        """All shortest ways from one name to another one, in order."""
        back = self.search(other)
        found = []
        waiting = [[one]] if one in back else []
        while waiting:
            way = waiting.pop()
            here = way[-1]
            if here == other:
                found.append(way)
                continue
            for step, add in self.ties[here].items():
                if step in back and back[step][0] + add == back[here][0]:
                    waiting.append(way + [step])
        return sorted(found)

    def joins(self, one, other, without=(), tie=None):
        """Whether a way leads from one name to the other, by no barred name and not by the tie."""
        if one in without or other in without:
            return False
        met, waiting = {one}, [one]
        while waiting:
            here = waiting.pop()
            for step in self.ties[here]:
                if step not in met and step not in without and {here, step} != set(tie or ()):
                    met.add(step)
                    waiting.append(step)
        return other in met


def strip(lengths=(1, 1)):
    """A ladder without rungs but the first one: two ways side by side that meet again at each piece."""
    return Book("s", {"s": Piece(0, ".", [], [("k", (0,))]),
                      "k": Piece(1, "...", [("a", 0, lengths[0]), ("a", 1, lengths[1]), (0, 2, 1), (1, 2, 1)],
                                 [("k", (2,))])})


def nest():
    """A book in which parts stand one behind the other, within kinds within kinds."""
    pieces = {"s": Piece(0, "..", [], [("a", (0, 1))])}
    for kind, below in zip("abcd", "bcde"):
        pieces[kind] = Piece(2, "...", [], [(below, ("a", 0)), (below, (0, 1)), (below, (1, 2)), (below, (2, "b"))])
    pieces["e"] = Piece(2, ".", [("a", 0, 1), (0, "b", 2)])
    return Book("s", pieces)


def names(places):
    """The pairs (row, number) of some places."""
    return [(place.row, place.number) for place in places]


def made_again(book):
    """An equal book that has no object in common with a book."""
    pieces = {kind: Piece(piece.mouth, piece.letters, [list(tie) for tie in piece.ties],
                          [[below, list(row)] for below, row in piece.buds]) for kind, piece in book.pieces.items()}
    return Book(book.seed, pieces)


def near_web(book, depth=2, most=4000):
    """A plain web in which all short ways among the places to a depth are, and these places."""
    far = min(depth + 4 + count_pairs(book), 9)
    while far > depth + 2:
        try:
            book.grown(far, most=most)
            break
        except WebError:
            far -= 1
    web = PlainWeb(book.pieces, book.seed, far)
    return web, [name for name in web.letters if len(name[0]) <= depth]


def count_pairs(book):
    """How many pairs of mouth letters all kinds of a book have together."""
    return sum(piece.mouth * (piece.mouth - 1) // 2 for piece in book.pieces.values())


def random_piece(rng, kinds, mouth, lengths, bare=False):
    new = rng.choice([0, 0, 0, 1, 1, 2] if bare and mouth else [1, 1, 2, 2, 3])
    places = list("abc"[:mouth]) + list(range(new))
    ties = []
    for index, one in enumerate(places):
        for other in places[index + 1:]:
            if isinstance(other, int) and rng.random() < 0.55:
                ties.append((one, other, rng.choice(lengths)))
    buds = []
    for _ in range(rng.choice([1, 1, 2] if new == 0 else [0, 1, 1, 2])):
        kind = rng.choice(list(kinds))
        if kinds[kind] <= len(places):
            buds.append((kind, tuple(rng.sample(places, kinds[kind]))))
    letters = "".join(rng.choice("ab.") for _ in range(new))
    return Piece(mouth, letters, ties, buds)


def random_book(rng, lengths=(1, 1, 2, 3, 9), bare=False):
    """A small random book; tries until one has no fault."""
    while True:
        many = rng.choice([1, 2, 3, 4, 5] if bare else [1, 2, 2, 3])
        kinds = {kind: rng.choice([1, 2, 2, 3]) for kind in "pqrtu"[:many]}
        pieces = {kind: random_piece(rng, kinds, kinds[kind], lengths, bare) for kind in kinds}
        pieces["seed"] = random_piece(rng, kinds, 0, lengths, bare)
        try:
            return Book("seed", pieces)
        except WebError:
            continue


def random_books(seed, many, lengths=(1, 1, 2, 3, 9)):
    rng = random.Random(seed)
    return [random_book(rng, lengths) for _ in range(many)]


def bare_books(seed, many, lengths=(1, 1, 2, 3, 9)):
    """Random books in which many pieces have no new place and only hand places on."""
    rng = random.Random(seed)
    return [random_book(rng, lengths, True) for _ in range(many)]
