"""[2], [4], [13], [14], [50]: the web as it is seen from a place."""

import random
import unittest

from growwebs.books import Book
from growwebs.distances import distance
from growwebs.errors import BadNumber, BadWord, NoSuch, OtherBook, TooFar, TooLong, TooMany
from growwebs.far import far_distance
from growwebs.inner import Inside
from growwebs.lanes import lanes
from growwebs.pieces import Piece
from growwebs.reasons import reason
from growwebs.routes import route, route_length
from growwebs.rows import Row
from growwebs.sights import Sight, Stand
from growwebs.ways import Ways
from tests.values import any_values
from tests.webs import PlainWeb, hander, ladder, names, nest, rails, random_books, strip, tent, twigs


def tree():
    return Book("root", {"root": Piece(0, ".", [], [("bough", (0,)), ("bough", (0,))]),
                         "bough": Piece(1, ".", [("a", 0, 1)], [("bough", (0,)), ("bough", (0,))])})


def loops(many):
    """A book whose seed sees just so many stands: gaps grow from piece to piece to a greatest one."""
    return Book("s", {"s": Piece(0, "..", [(0, 1, 1)], [("p", (0, 1))]),
                      "p": Piece(2, "..", [("a", 0, 1), ("b", 1, 2), (0, 1, many)], [("p", (0, 1))])})


def wide_web(book, depth, most=3000):
    """A plain web to a depth at which it has at most so many places."""
    while depth > 1 and len(PlainWeb(book.pieces, book.seed, depth).letters) > most:
        depth -= 1
    return PlainWeb(book.pieces, book.seed, depth), depth


def safe_distances(web, depth, name):
    """The distances from a name, and the greatest length to which all places are in the plain web."""
    found = {other: length for other, (length, _) in web.search(name).items()}
    # Beyond the last pieces lie only places behind places that are handed on from there, or new there.
    rim = [found[other] for row in web.kinds if len(row) == depth for told in list("abc") + list(range(6))
           if (other := web.told.get((row, told))) in found]
    return found, min(rim, default=None)


class SightsTest(unittest.TestCase):

    def test_the_example(self):
        book = ladder()
        sight = Sight(book.place((), 0))
        self.assertTrue(sight.origin == book.place((), 0))
        self.assertEqual(names(place for place, _ in sight.near), [((), 0), ((), 1)])
        self.assertEqual([length for _, length in sight.near], [0, 1])
        self.assertEqual(sight.entries, (((), 0, 0, 0),))
        self.assertEqual([vars(stand) for stand in sight.stands],
                         [{"kind": "rung", "part": "ab", "gaps": (0, 1), "own": ((0, 1), (1, 2)), "arrows": ((0, 1, 0),)}])
        self.assertEqual(sight.reach, 1 + 2 + 1)
        self.assertEqual([sight.at(n) for n in range(5)], [1, 2, 2, 2, 2])
        self.assertIsNone(sight.same_numbers(Sight(book.place((), 1))))
        self.assertIsInstance(vars(Sight)["reach"], property)

    def books(self):
        return [ladder(), rails(), tent(), twigs(), hander(), tree(), strip()] + random_books(111, 70) \
            + random_books(112, 40, (1, 1, 2))

    def starts(self, book, rng, depth=3):
        """Some places of a book, near the seed and further down."""
        places = []
        for _ in range(3):
            row, kind = (), book.seed
            for _ in range(rng.randrange(depth + 1)):
                if book.pieces[kind].buds:
                    number = rng.randrange(len(book.pieces[kind].buds))
                    row, kind = row + (number,), book.pieces[kind].buds[number][0]
            piece = book.pieces[kind]
            places.append(book.place(row, rng.choice(list("abc"[:piece.mouth]) + list(range(len(piece.letters))))))
        return places

    def test_near_entries_and_stands(self):
        entries = stands = 0
        for seed, book in enumerate(self.books()):
            for place in self.starts(book, random.Random(seed)):
                try:
                    sight = Sight(place)
                except TooMany:
                    continue
                self.check_near(book, place, sight)
                self.check_entries(book, place, sight)
                self.check_stands(book, sight)
                entries += len(sight.entries)
                stands += len(sight.stands)
        self.assertGreater(min(entries, stands), 200)

    def check_near(self, book, place, sight):
        row = place.row
        want = []
        for depth in range(len(row) + 1):
            piece = book.pieces[book.kind_at(row[:depth])]
            for number in range(len(piece.letters)):
                length = distance(place, book.place(row[:depth], number))
                if length is not None:
                    want.append((row[:depth], number, length))
        self.assertEqual([(near.row, near.number, length) for near, length in sight.near], want)
        self.assertIsInstance(sight.near, tuple)
        for near, length in sight.near:
            self.assertEqual(far_distance(book, near, place), length)
            self.assertEqual(Ways(place, near).length, length)
            self.assertEqual(reason(place, near).length, length)
            self.assertEqual(route_length(place, near, route(place, near)), length)

    def check_entries(self, book, place, sight):
        row = place.row
        inside = Inside(book)
        want, first = [], []
        for depth in range(len(row) + 1):
            piece = book.pieces[book.kind_at(row[:depth])]
            for bud, (kind, _) in enumerate(piece.buds):
                if row[:depth + 1] == row[:depth] + (bud,):
                    continue
                for part in inside.together(kind):
                    lengths = [distance(place, book.place(row[:depth] + (bud,), letter)) for letter in part]
                    if lengths[0] is not None:
                        gaps = tuple(length - min(lengths) for length in lengths)
                        if (kind, part, gaps) not in first:
                            first.append((kind, part, gaps))
                        want.append((row[:depth], bud, min(lengths), first.index((kind, part, gaps))))
        self.assertEqual(sight.entries, tuple(want))
        told = [(stand.kind, stand.part, stand.gaps) for stand in sight.stands]
        self.assertEqual(told[:len(first)], first)
        self.assertEqual(len(set(told)), len(told))
        # Each stand behind the first ones is met by an arrow of an earlier stand, in the order of the numbers.
        met = list(range(len(first)))
        for stand in sight.stands:
            for _, _, number in stand.arrows:
                if number not in met:
                    self.assertEqual(number, len(met))
                    met.append(number)
        self.assertEqual(len(met), len(told))
        shifts = [[] for _ in told]
        for _, _, shift, number in list(sight.entries):
            shifts[number].append(shift)
        for stand in sight.stands:
            for _, shift, number in stand.arrows:
                shifts[number].append(shift)
        greatest = [length for _, length in sight.near] + [time for stand in sight.stands for _, time in stand.own]
        self.assertEqual(sight.reach, 1 + max(greatest) + sum(max(row) for row in shifts))

    def check_stands(self, book, sight):
        for stand in sight.stands:
            self.assertIsInstance(stand, Stand)
            self.assertEqual(min(stand.gaps), 0)
            web = PlainWeb(book.pieces, stand.kind, 5)
            found = {letter: web.search(("mouth", letter)) for letter in stand.part}
            times = {}
            for number in range(len(book.pieces[stand.kind].letters)):
                sums = [gap + found[letter][((), number)][0] for letter, gap in zip(stand.part, stand.gaps)
                        if ((), number) in found[letter]]
                if sums:
                    times[number] = min(sums)
            self.assertLessEqual({number for number, _ in stand.own} - set(times), set(dict(stand.own)))
            if all(length <= 5 for length in times.values()):
                self.assertEqual(stand.own, tuple(sorted(times.items())))
            told = lanes(book, stand.kind, stand.part)
            self.assertEqual([arrow[0] for arrow in stand.arrows], [lane[0] for lane in told])
            for (_, kind, part), (_, _, number) in zip(told, stand.arrows):
                self.assertEqual((sight.stands[number].kind, sight.stands[number].part), (kind, part))

    def test_a_stand_tells_all_distances_further_down(self):
        looked = 0
        for seed, book in enumerate(self.books()):
            rng = random.Random(seed)
            for place in self.starts(book, rng):
                try:
                    sight = Sight(place)
                except TooMany:
                    continue
                for row, bud, shift, number in sight.entries:
                    row, stand = row + (bud,), sight.stands[number]
                    for _ in range(4):
                        for own, time in stand.own:
                            other = book.place(row, own)
                            self.assertEqual(distance(place, other), shift + time)
                            self.assertEqual(far_distance(book, other, place), shift + time)
                            looked += 1
                        if stand.own:
                            length = shift + stand.own[-1][1]
                            self.assertEqual(Ways(place, other).length, length)
                            self.assertEqual(reason(place, other).length, length)
                            self.assertEqual(route_length(place, other, route(place, other)), length)
                        if not stand.arrows:
                            break
                        bud, more, number = rng.choice(stand.arrows)
                        row, shift, stand = row + (bud,), shift + more, sight.stands[number]
        self.assertGreater(looked, 600)

    def test_numbers_against_a_plain_search(self):
        whole = ended = 0
        for seed, book in enumerate(self.books()):
            rng = random.Random(seed)
            web, depth = wide_web(book, 9)
            for place in self.starts(book, rng, 2):
                try:
                    sight = Sight(place)
                except TooMany:
                    continue
                found, rim = safe_distances(web, depth, (place.row, place.number))
                if rim is None:
                    rim = max(found.values()) + 4
                    ended += 1
                for n in range(min(rim, 40)):
                    want = sorted(name for name, length in found.items() if length == n)
                    self.assertEqual(sight.at(n), len(want))
                    self.assertEqual(sight.within(n), sum(length <= n for length in found.values()))
                    for letter in "ab.z":
                        self.assertEqual(sight.lettered(letter, n), sum(web.letters[name] == letter for name in want))
                    self.assertEqual(names(sight.sphere(n)), want)
                    for k in sorted({0, len(want) // 2, len(want) - 1}) if want else []:
                        self.assertEqual(names([sight.nth(n, k)]), [want[k]])
                        self.assertEqual(sight.rank(book.place(*want[k])), (n, k))
                    with self.assertRaises(NoSuch) as caught:
                        sight.nth(n, len(want))
                    self.assertEqual(caught.exception.number, len(want))
                    whole += len(want)
                for name in rng.sample(sorted(web.letters), min(4, len(web.letters))):
                    if name not in found and len(name[0]) <= depth // 2:
                        self.assertEqual(sight.rank(book.place(*name)) is None, distance(place, book.place(*name)) is None)
        self.assertGreater(whole, 3000)
        self.assertGreater(ended, 40)

    def test_order_of_the_places_at_a_distance(self):
        book = tree()
        sight = Sight(book.place((0, 1), 0))
        for n in (1, 5, 9):
            places = names(sight.sphere(n))
            self.assertEqual(places, sorted(places))
            self.assertEqual([sight.rank(place) for place in sight.sphere(n)], [(n, k) for k in range(len(places))])

    def test_regions_that_end(self):
        book = Book("s", {"s": Piece(0, "a..", [(0, 1, 5)], [("k", (2,)), ("k", (0,))]), "k": Piece(1, "a.", [("a", 0, 2)])})
        sight = Sight(book.place((), 1))
        self.assertEqual([(n, sight.at(n)) for n in range(30) if sight.at(n)], [(0, 1), (5, 1), (7, 1)])
        self.assertEqual((sight.within(1000), sight.at(1000), sight.lettered("a", 5), sight.lettered("a", 7)), (3, 0, 1, 1))
        self.assertEqual(names(sight.sphere(5)), [((), 0)])
        self.assertEqual(sight.sphere(6), [])
        self.assertIsNone(sight.rank(book.place((), 2)))
        self.assertIsNone(sight.rank(book.place((0,), 0)))
        self.assertIsNone(sight.rank(book.place((1,), 1)))
        self.assertEqual((sight.entries, sight.stands[0].own, sight.stands[0].arrows, sight.reach),
                         ((((), 1, 5, 0),), ((0, 2),), (), 1 + 5 + 5))
        alone = Sight(book.place((0,), 1))
        self.assertEqual((alone.entries, alone.stands, alone.reach, alone.within(9)), ((), (), 1, 1))

    def test_lengths_of_two_hundred_and_more(self):
        book = Book("s", {"s": Piece(0, "x", [], [("k", (0,))]), "k": Piece(1, "y.", [("a", 0, 200), ("a", 1, 300)], [("k", (0,))])})
        sight = Sight(book.place((), 0))
        want = {}
        for depth in range(6):
            for length, letter in ((200, "y"), (300, ".")):
                want.setdefault(200 * depth + length, []).append(letter)
        for n in range(1, 1001):
            self.assertEqual(sight.at(n), len(want.get(n, [])))
            self.assertEqual(sight.lettered("y", n), want.get(n, []).count("y"))
        self.assertEqual(sight.within(1000), 1 + sum(len(want[n]) for n in want if n <= 1000))
        self.assertEqual(names([sight.nth(900, 0)]), [((0,) * 4, 1)])
        great = Book("s", {"s": Piece(0, "..", [(0, 1, 10 ** 100)])})
        self.assertEqual((Sight(great.place((), 0)).within(1000), Sight(great.place((), 0)).reach), (1, 1 + 10 ** 100))
        with self.assertRaises(TooFar) as caught:
            Sight(great.place((), 0)).rank(great.place((), 1))
        self.assertEqual(caught.exception.number, 10 ** 100)

    def test_a_thousand_and_one(self):
        book = ladder()
        sight = Sight(book.place((), 0))
        self.assertEqual((sight.at(1000), sight.within(1000), sight.lettered(".", 1000), len(sight.sphere(1000))),
                         (2, 2000 + 1, 2, 2))
        self.assertEqual(sight.rank(book.place((0,) * 1000, 0)), (1000, 1))
        self.assertEqual(sight.rank(book.place((0,) * 999, 1)), (1000, 0))
        self.assertTrue(sight.nth(1000, 1) == book.place((0,) * 1000, 0))
        for call in (lambda: sight.at(1001), lambda: sight.within(1001), lambda: sight.lettered("a", 1001),
                     lambda: sight.nth(1001, -1), lambda: sight.nth(1001, 99), lambda: sight.sphere(1001),
                     lambda: sight.rank(book.place((0,) * 1001, 0)), lambda: sight.rank(book.place((0,) * 1000, 1))):
            with self.assertRaises(TooFar) as caught:
                call()
            self.assertEqual(caught.exception.number, 1001)

    def test_sphere_and_most(self):
        sight = Sight(tree().place((), 0))
        self.assertEqual(len(sight.sphere(7, most=128)), 128)
        with self.assertRaises(TooMany) as caught:
            sight.sphere(7, most=127)
        self.assertEqual(caught.exception.most, 127)
        self.assertEqual(len(sight.sphere(10)), 1024)
        with self.assertRaises(TooMany) as caught:
            sight.sphere(11)
        self.assertEqual(caught.exception.most, 2000)
        self.assertEqual(Sight(tent().place((), 0)).sphere(5, most=0), [])
        with self.assertRaises(TooMany):
            sight.sphere(0, most=0)

    def test_great_numbers(self):
        book = tree()
        sight = Sight(book.place((0, 1) * 5, 0))
        self.assertEqual(Sight(book.place((), 0)).at(1000), 2 ** 1000)
        many = sight.at(1000)
        rng = random.Random(1)
        for k in [0, many - 1, many // 3] + [rng.randrange(many) for _ in range(5)]:
            place = sight.nth(1000, k)
            self.assertEqual(far_distance(book, sight.origin, place), 1000)
            self.assertEqual(sight.rank(place), (1000, k))
        with self.assertRaises(NoSuch):
            sight.nth(1000, many)

    def test_rows_of_two_thousand(self):
        book = ladder()
        sight = Sight(book.place((0,) * 2000, 0))
        self.assertEqual((len(sight.near), len(sight.entries), sight.at(1000), sight.within(1000)), (4002, 1, 4, 4000))
        self.assertEqual([(place.row.total() if isinstance(place.row, Row) else len(place.row), place.number)
                          for place in sight.sphere(1000)], [(1000, 0), (1001, 1), (2999, 1), (3000, 0)])
        self.assertTrue(sight.nth(1000, 0) == book.place((0,) * 1000, 0))
        self.assertTrue(sight.nth(1000, 3) == book.place((0,) * 3000, 0))
        self.assertEqual(sight.rank(book.place((0,) * 3000, 0)), (1000, 3))
        with self.assertRaises(TooLong) as caught:
            Sight(book.place((0,) * 2001, 0))
        self.assertEqual(caught.exception.length, 2001)

    def test_a_hundred_stands(self):
        self.assertEqual(len(Sight(loops(100).place((), 0)).stands), 100)
        with self.assertRaises(TooMany) as caught:
            Sight(loops(101).place((), 0))
        self.assertEqual(caught.exception.most, 100)
        with self.assertRaises(TooLong):
            Sight(loops(101).place((0,) * 2001, 0))
        with self.assertRaises(TooMany):
            Sight(loops(10 ** 100).place((), 0))

    def test_same_numbers(self):
        book = ladder()
        one = Sight(book.place((), 0))
        told = Book("b", {"b": Piece(0, "..", [(0, 1, 1)], [("x", (1, 0))]),
                          "x": Piece(2, "..", [("b", 0, 1), ("a", 1, 1), (0, 1, 1)], [("y", (0, 1))]),
                          "y": Piece(2, "..", [("a", 0, 1), ("b", 1, 1), (0, 1, 1)], [("x", (1, 0))])})
        for place in (told.place((), 0), told.place((), 1)):
            self.assertIsNone(one.same_numbers(Sight(place)))
            self.assertIsNone(Sight(place).same_numbers(one))
        self.assertEqual(one.same_numbers(Sight(book.place((0,), 0))), 1)
        self.assertEqual(Sight(rails().place((), 0)).same_numbers(one), 2)
        ended = [Sight(self.line(many).place((), 0)) for many in (9, 10, 9)]
        self.assertEqual((ended[0].same_numbers(ended[1]), ended[1].same_numbers(ended[0])), (9, 9))
        self.assertIsNone(ended[0].same_numbers(ended[2]))

    def line(self, many):
        """A book whose web is one row of so many places."""
        pieces = {"s": Piece(0, "." * 5, [(at, at + 1, 1) for at in range(4)], [("k", (4,))])}
        pieces["k"] = Piece(1, "." * (many - 5), [("a", 0, 1)] + [(at, at + 1, 1) for at in range(many - 6)])
        return Book("s", pieces)

    def test_numbers_that_differ_late(self):
        # The one web has one place more, far down: its ties are long, and all others are alike.
        def book(last):
            return Book("s", {"s": Piece(0, "..", [(0, 1, 80)], [("k", (1,))]),
                              "k": Piece(1, "..", [("a", 0, 80), (0, 1, 80)], [("m", (1,))]),
                              "m": Piece(1, "." * last, [("a", at, 80) for at in range(last)])})
        one, other = Sight(book(1).place((), 0)), Sight(book(2).place((), 0))
        self.assertEqual((one.same_numbers(other), other.same_numbers(one)), (320, 320))

    def test_reaches_of_a_thousand_together(self):
        def book(length):
            return Book("s", {"s": Piece(0, "..", [(0, 1, length)])})
        for first, second in ((499, 499), (998, 0 + 1), (1, 997)):
            one, other = Sight(book(first).place((), 0)), Sight(book(second).place((), 0))
            far = one.reach + other.reach
            self.assertEqual(far, first + second + 2)
            want = None if first == second else min(first, second)
            if far <= 1000:
                self.assertEqual(one.same_numbers(other), want)
            else:
                with self.assertRaises(TooFar) as caught:
                    one.same_numbers(other)
                self.assertEqual(caught.exception.number, 1001)

    def test_wrong_values(self):
        book = ladder()
        sight = Sight(book.place((), 0))
        for value in any_values() + [-1]:
            good = isinstance(value, int) and not isinstance(value, bool) and value >= 0
            if not good:
                for call in (lambda: sight.at(value), lambda: sight.within(value), lambda: sight.lettered("a", value),
                             lambda: sight.nth(value, None), lambda: sight.nth(3, value), lambda: sight.sphere(value)):
                    with self.assertRaises(BadNumber) as caught:
                        call()
                    self.assertIs(caught.exception.value, value)
            if value not in ("a", "b"):
                with self.assertRaises(BadWord) as caught:
                    sight.lettered(value, None)
                self.assertIs(caught.exception.value, value)
        for letter in ("A", "..", "", "\n", "ab", "{"):
            with self.assertRaises(BadWord):
                sight.lettered(letter, 10 ** 9)
        for call, error in ((lambda: sight.nth(1001, None), TooFar), (lambda: sight.nth(None, 10 ** 9), BadNumber),
                            (lambda: sight.nth(2, 2), NoSuch), (lambda: sight.nth(2, -2), BadNumber),
                            (lambda: sight.lettered(".", 1001), TooFar), (lambda: sight.lettered(".", True), BadNumber)):
            with self.assertRaises(error):
                call()

    def test_other_books_and_names_of_arguments(self):
        sight = Sight(place=ladder().place((), 0))
        with self.assertRaises(OtherBook):
            sight.rank(rails().place((), 0))
        self.assertEqual(sight.rank(place=ladder().place((0,), 0)), (1, 1))
        self.assertEqual((sight.at(n=3), sight.within(n=3), sight.lettered(n=3, letter=".")), (2, 7, 2))
        self.assertTrue(sight.nth(k=1, n=1) == ladder().place((0,), 0))
        self.assertIsNone(sight.same_numbers(other=sight))
        sight.sphere(most=2, n=4).clear()
        self.assertEqual(len(sight.sphere(4)), 2)
        self.assertFalse(sight == Sight(ladder().place((), 0)))
        again = Sight(ladder().place((), 0))
        self.assertEqual((again.entries, again.near), (sight.entries, sight.near))
