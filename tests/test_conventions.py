"""[1], [2], [61]: the conventions, for all modules at once."""

import importlib
import inspect
import unittest
from pathlib import Path

from growwebs.books import Book, Place
from growwebs.covers import Lonely, lonely, states
from growwebs.cuts import Bridges, Cuts, is_cut, joined
from growwebs.depths import Depths
from growwebs.distances import distance
from growwebs.ends import Ends, ends, ends_along
from growwebs.errors import BadBook, BadNumber, BadRule, BadWord, NoBud, NoKind, NoPart, NoPiece, NoPlace, OtherBook
from growwebs.errors import TooFar, TooLong, WebError
from growwebs.far import far_distance, tale_between, tale_to
from growwebs.folds import Unfolding
from growwebs.gardens import Garden
from growwebs.growth import Growth, growth
from growwebs.inner import Inside
from growwebs.lanes import lanes
from growwebs.leads import Lead, Leads
from growwebs.marks import Marks
from growwebs.pairings import Pairing, Pairings
from growwebs.pieces import Piece
from growwebs.reasons import Reason, reason
from growwebs.routes import Route, route, route_length
from growwebs.rows import Loop, Row
from growwebs.rules import Rule
from growwebs.sames import least_book, parting
from growwebs.sights import Sight, Stand
from growwebs.tales import Tale
from growwebs.times import Times
from growwebs.ways import Ways
from tests.values import any_values
from tests.webs import ladder, tent, twigs

THREE = Rule("abc", ["ab", "bc", "ca"])
INTERFACE = {
    "pieces": {"Piece": ["mouth", "letters", "ties=()", "buds=()"]},
    "books": {
        "Book": ["seed", "pieces"], "Book.kind_at": ["row"], "Book.place": ["row", "told"],
        "Book.pieces_of": ["place"], "Book.letter_of": ["place"], "Book.neighbours": ["place"],
        "Book.grown": ["depth", "*most=2000"], "Place": ["book", "row", "number"]},
    "rows": {
        "Row": ["stretches=()"], "Row.total": [], "Row.bud": ["index"], "Row.plain": ["*most=2000"],
        "Row.beginning": ["many"], "Row.behind": ["many"], "Row.before": ["other"], "Row.common": ["other"],
        "Row.__add__": ["other"], "Loop": ["head", "word", "tail"], "Loop.row_at": ["number"]},
    "times": {
        "Times": ["modulus", "spans"], "Times.least": [], "Times.last": [], "Times.up_to": ["number"],
        "Times.after": ["number"], "Times.nth": ["index"], "Times.ending": [], "Times.__and__": ["other"],
        "Times.__or__": ["other"], "Times.__sub__": ["other"], "Times.__xor__": ["other"], "Times.__invert__": []},
    "tales": {
        "Tale": ["early", "lines"], "Tale.__call__": ["number"], "Tale.along": ["step", "start"],
        "Tale.below": ["other"], "Tale.meets": ["other"], "Tale.within": ["most"], "Tale.silent": [],
        "Tale.ending": [], "Tale.__add__": ["other"], "Tale.__or__": ["other"]},
    "inner": {
        "Inside": ["book"], "Inside.least": ["kind", "one", "other"],
        "Inside.stretch": ["kind", "one", "other"], "Inside.together": ["kind"]},
    "distances": {
        "distance": ["one", "other"], "is_between": ["place", "one", "other"], "next_places": ["one", "other"]},
    "ways": {
        "Ways": ["one", "other"], "Ways.total": [], "Ways.fewest_ties": [], "Ways.through": ["place"],
        "Ways.way_at": ["number"], "Ways.number_of": ["way"]},
    "reasons": {
        "Reason": ["length", "kinds", "rows"], "reason_holds": ["one", "other", "reason"], "reason": ["one", "other"]},
    "routes": {
        "Route": ["steps", "kinds"], "route_length": ["one", "other", "route"], "route": ["one", "other"]},
    "cuts": {
        "joined": ["one", "other", "without=()"], "is_cut": ["place", "one", "other"],
        "Cuts": ["one", "other"], "Cuts.total": [], "Cuts.cut_at": ["number"], "Cuts.number_of": ["place"],
        "Bridges": ["one", "other"], "Bridges.total": [], "Bridges.bridge_at": ["number"],
        "Bridges.number_of": ["pair"]},
    "far": {
        "far_distance": ["book", "one", "other"], "tale_to": ["book", "place", "loop", "told"],
        "tale_between": ["book", "loop", "told", "tail", "other"]},
    "depths": {
        "Depths": ["book"], "Depths.exact": ["what", "number"], "Depths.pieces_of": ["kind", "number"],
        "Depths.modulo": ["what", "number", "modulus"], "Depths.least_depth": ["what", "wish"], "Depths.spread": [],
        "Depths.when": ["what", "modulus", "rest"]},
    "lanes": {"lanes": ["book", "kind", "part"], "grows_on": ["book", "kind", "part"]},
    "sights": {
        "Sight": ["place"], "Sight.at": ["n"], "Sight.within": ["n"], "Sight.lettered": ["letter", "n"],
        "Sight.nth": ["n", "k"], "Sight.rank": ["place"], "Sight.sphere": ["n", "*most=2000"],
        "Sight.same_numbers": ["other"]},
    "growth": {"growth": ["place"]},
    "ends": {"ends": ["place"], "ends_along": ["place", "head", "turn"]},
    "marks": {
        "Marks": ["book"], "Marks.__getitem__": ["place"], "Marks.__setitem__": ["place", "letter"],
        "Marks.__contains__": ["place"], "Marks.__len__": [], "Marks.listed": [], "Marks.undo": [], "Marks.undoable": [],
        "Marks.nearest": ["place", "letter"], "Marks.total": ["letter"]},
    "covers": {
        "states": ["book", "letter", "radius"], "every": ["book", "letter", "radius"], "lonely": ["book", "letter"]},
    "rules": {"Rule": ["colours", "beside", "letters=None"]},
    "leads": {
        "Leads": ["book", "rule"], "Leads.fails_at": [], "Leads.may": ["kind"], "Leads.lowest": [], "Leads.bar": [],
        "Leads.how_many": ["modulo"], "Leads.of_depth": ["depth", "modulo"], "Leads.colours_of": ["place"],
        "Leads.pairs_of": ["one", "other"], "Lead": ["book", "rule", "table"], "Lead.colour": ["place"],
        "Lead.coloured": ["colour", "depth"], "Lead.first_apart": ["other"], "fewest_colours": ["book"]},
    "pairings": {
        "Pairings": ["book"], "Pairings.may": ["kind"], "Pairings.fails_at": [], "Pairings.bar": [],
        "Pairings.lowest": [], "Pairings.partners": ["place"], "Pairing": ["book", "table"], "Pairing.partner": ["place"],
        "Pairing.first_apart": ["other"]},
    "sames": {"same": ["one", "other"], "parting": ["one", "other"], "least_book": ["book"]},
    "folds": {"Unfolding": ["book", "kind", "number"], "Unfolding.led": ["place"], "Unfolding.back": ["place"]},
    "gardens": {
        "Garden": ["book"], "Garden.__len__": [], "Garden.set_tie": ["kind", "one", "other", "length"],
        "Garden.cut_tie": ["kind", "one", "other"], "Garden.set_bud": ["kind", "at", "bud"], "Garden.drop_bud": ["kind"],
        "Garden.set_letter": ["kind", "at", "letter"], "Garden.drop_kind": ["kind"], "Garden.set_kind": ["kind", "piece"],
        "Garden.keep": ["guard"], "Garden.free": ["guard"], "Garden.undo": [], "Garden.trial": ["action"],
        "Garden.attempt": ["action"]},
}


def told_parameters(function):
    told = []
    for parameter in inspect.signature(function).parameters.values():
        if parameter.name == "self":
            continue
        star = "*" if parameter.kind == parameter.KEYWORD_ONLY else ""
        default = "" if parameter.default is parameter.empty else f"={parameter.default!r}"
        told.append(star + parameter.name + default)
    return told


class ConventionsTest(unittest.TestCase):

    def test_each_name_stands_in_its_module(self):
        for name, entries in INTERFACE.items():
            module = importlib.import_module(f"growwebs.{name}")
            for entry, parameters in entries.items():
                owner, _, method = entry.partition(".")
                thing = getattr(module, owner)
                self.assertEqual(thing.__module__, module.__name__)
                if method:
                    self.assertIn(method, vars(thing), entry)
                    thing = vars(thing)[method]
                self.assertEqual(told_parameters(thing), parameters, entry)

    def test_equality_is_defined_for_what_is_equal_by_value(self):
        for owner in (Piece, Book, Place, Row, Times, Tale, Marks, Rule, Lead, Pairing):
            self.assertIn("__eq__", vars(owner))
        for owner in (Loop, Inside, Ways, Reason, Route, Cuts, Bridges, Depths, Sight, Stand, Growth, Ends, Lonely,
                      Leads, Pairings, Unfolding, Garden):
            self.assertNotIn("__eq__", vars(owner))
        for owner in (Leads, Pairings):
            self.assertIsInstance(vars(owner)["exists"], property)
        self.assertIsInstance(vars(Leads)["is_endless"], property)
        self.assertIsInstance(vars(Book)["is_finite"], property)
        self.assertIsInstance(vars(Times)["endless"], property)
        self.assertIsInstance(vars(Sight)["reach"], property)

    def test_objects_of_other_classes_are_unequal(self):
        values = any_values()
        for at, one in enumerate(values):
            for other in values[at + 1:]:
                if one.__class__ is not other.__class__:
                    same = isinstance(one, int) and isinstance(other, int) and one == other
                    self.assertIs(one == other, same)
                    self.assertIs(one != other, not same)

    def test_objects_are_no_keys(self):
        for value in (ladder(), ladder().place((), 0), Piece(0, "."), Row(), Times(1, []), Tale([], [[]] * 6),
                      Marks(ladder()), Rule("a", []), Pairings(ladder()).lowest()):
            with self.assertRaises(TypeError):
                hash(value)

    def test_lists_and_tuples_stand_for_each_other(self):
        def deep(value, make):
            if isinstance(value, (list, tuple)):
                return make(deep(entry, make) for entry in value)
            return value
        ties, buds = [("a", 0, 1), (1, 0, 2)], [("k", ("b", 0))]
        self.assertEqual(Piece(2, "..", deep(ties, list), deep(buds, list)),
                         Piece(2, "..", deep(ties, tuple), deep(buds, tuple)))
        self.assertEqual(Row(deep([((0, 1), 3)], list)), Row(deep([((0, 1), 3)], tuple)))
        self.assertEqual(Times(3, deep([(1, 0, None)], list)), Times(3, deep([(1, 0, None)], tuple)))
        lines = [[(1, 2)], [], [], [], [], []]
        self.assertEqual(Tale([None, 1], deep(lines, list)), Tale((None, 1), deep(lines, tuple)))
        self.assertEqual(Loop([0], [1], [2]).row_at(1), Loop((0,), (1,), (2,)).row_at(1))

    def test_true_and_false_are_no_integers(self):
        for make in (lambda: Piece(True, "."), lambda: Piece(2, "..", [(0, 1, True)]),
                     lambda: Piece(0, "..", [(False, 1, 1)]), lambda: Row([((0,), True)]),
                     lambda: Row([((False,), 1)]), lambda: Times(True, []), lambda: Times(2, [(True, 0, None)]),
                     lambda: Tale([True], [[]] * 6), lambda: Tale([], [[(0, False)]] + [[]] * 5),
                     lambda: ladder().place((), False), lambda: ladder().kind_at((False,)),
                     lambda: Row([((0,), 2)]).bud(True), lambda: Loop((), (0,), ()).row_at(True)):
            with self.assertRaises(WebError):
                make()
        self.assertNotIn(True, Times(1, [(0, 0, None)]))

    def test_a_call_that_raises_changes_nothing(self):
        row, spans, lines = [0, 9], [[0, 0, None], [7, 0, 0]], [[[0, 0]], []]
        pieces = {"s": Piece(0, "."), "K": 1}
        for make, error in ((lambda: ladder().place(row, 0), NoPiece), (lambda: Times(2, spans), WebError),
                            (lambda: Tale([], lines), WebError), (lambda: Book("s", pieces), BadBook)):
            with self.assertRaises(error):
                make()
        self.assertEqual((row, spans, lines, set(pieces)),
                         ([0, 9], [[0, 0, None], [7, 0, 0]], [[[0, 0]], []], {"s", "K"}))

    def test_equal_calls_return_equal_results(self):
        book = ladder()
        one, other = book.place((0,) * 9, 0), book.place((), 1)
        for call in (lambda: book.grown(3), lambda: book.neighbours(one), lambda: book.pieces_of(one),
                     lambda: distance(one, other), lambda: Row([((0, 1), 9)]).behind(3),
                     lambda: Tale([1], [[(0, 1)]] * 6).ending(), lambda: ~Times(3, [(1, 4, None)]),
                     lambda: (~Times(3, [(1, 4, None)])).spans, lambda: (Tale([1], [[(0, 1)]] * 6) + 1).lines,
                     lambda: vars(reason(one, other)), lambda: vars(route(one, other)),
                     lambda: Ways(one, other).way_at(3), lambda: far_distance(book, one, other),
                     lambda: tale_to(book, one, Loop((0,), (0,), ()), 0).lines,
                     lambda: tale_between(book, Loop((0,), (0,), ()), 0, (0,), 1).early,
                     lambda: Sight(one).near, lambda: [vars(stand) for stand in Sight(one).stands],
                     lambda: Sight(one).sphere(5), lambda: vars(growth(one)), lambda: lanes(book, "rung", "ab"),
                     lambda: Depths(book).when("ties", 8, 3), lambda: Depths(book).when("ties", 8, 3).spans,
                     lambda: vars(ends(one)), lambda: Marks(book).nearest(one, "."), lambda: states(book, ".", 3),
                     lambda: vars(lonely(book, ".")), lambda: Marks(book), lambda: Leads(book, THREE).lowest(),
                     lambda: Leads(book, THREE).lowest().table, lambda: Leads(tent(), Rule("ab", ["ab"])).bar(),
                     lambda: Pairings(book).lowest().table, lambda: Pairings(book).partners(one),
                     lambda: least_book(book), lambda: parting(book, tent()), lambda: Unfolding(book, "rung", 0).result):
            self.assertEqual(call(), call())

    def test_lists_and_tuples_for_what_goes_between_places(self):
        book = ladder()
        one, other = book.place([], 0), book.place([0], 1)
        for make in (list, tuple):
            self.assertEqual(Ways(one, other).number_of(make(Ways(one, other).way_at(1))), 1)
            self.assertIs(joined(one, other, make([book.place((), 1), book.place((0,), 0)])), False)
            self.assertEqual(route_length(one, other, Route(make([make([make([]), 0, 1]), ([0], "b", 1)]), {})), 2)
            self.assertEqual(tale_between(book, Loop([0], (0,), ()), 0, make([0, 0]), 1)(5), 3)
        self.assertFalse(is_cut(one, one, other))

    def test_two_wrong_arguments_at_once(self):
        book = ladder()
        one, strange = book.place((), 0), twigs().place((), 0)
        long, far = book.place((0,) * 300, 0), book.place((0,) * 2001, 0)
        for call, error in ((lambda: tale_to(book, strange, Loop((9,), (0,), ()), None), OtherBook),
                            (lambda: tale_to(book, long, Loop((9,), (0,), ()), None), TooFar),
                            (lambda: tale_between(book, Loop((9,), (0,), ()), None, (9,), None), NoPiece),
                            (lambda: tale_between(book, Loop((0,), (0,), ()), None, (9,), None), NoPlace),
                            (lambda: joined(one, strange, [None]), OtherBook),
                            (lambda: far_distance(book, strange, one), OtherBook),
                            (lambda: reason(one, strange), OtherBook),
                            (lambda: lanes(book, "base ", None), NoKind), (lambda: lanes(book, "base", None), NoPart),
                            (lambda: Depths(book).exact("tie", -1), BadWord),
                            (lambda: Depths(book).modulo("ties", -1, None), BadNumber),
                            (lambda: Depths(book).when("ties", 4096, 4096), BadNumber),
                            (lambda: Sight(one).nth(1001, None), TooFar), (lambda: Sight(one).nth(None, None), BadNumber),
                            (lambda: Sight(one).lettered("", 1001), BadWord),
                            (lambda: ends_along(one, None, None), NoPiece), (lambda: ends_along(one, (9,), ()), BadWord),
                            (lambda: Marks(book).nearest(strange, None), OtherBook),
                            (lambda: states(book, "ab", -1), BadWord), (lambda: states(book, "a", -1), BadNumber),
                            (lambda: Rule("aa", None, 5), BadRule), (lambda: Leads(book, THREE).of_depth(-1, 0), BadNumber),
                            (lambda: Leads(book, THREE).of_depth(999, 0), BadNumber),
                            (lambda: Leads(book, THREE).how_many(0), BadNumber),
                            (lambda: Leads(book, THREE).lowest().coloured("d", -1), BadRule),
                            (lambda: Leads(book, THREE).lowest().coloured("a", -1), BadNumber),
                            (lambda: Leads(book, THREE).pairs_of(far, strange), TooLong),
                            (lambda: Leads(book, THREE).pairs_of(strange, far), OtherBook),
                            (lambda: Unfolding(book, "none", 9), NoKind), (lambda: Unfolding(book, "rung", 9), NoBud),
                            (lambda: Garden(book).set_bud("none", 9, None), NoKind),
                            (lambda: Garden(book).set_letter("rung", 9, None), NoPlace)):
            with self.assertRaises(error):
                call()

    def test_the_seed_is_looked_at_ahead_of_the_pieces(self):
        with self.assertRaises(BadBook) as caught:
            Book(pieces={"K": None, "s": None}, seed=[])
        self.assertEqual(caught.exception.kind, [])


class ReadmeTest(unittest.TestCase):

    def test_the_example_of_the_readme(self):
        text = (Path(__file__).parent.parent / "README.md").read_text()
        code = text.split("```python\n")[1].split("```")[0]
        names = {}
        exec(code, names)
        told = [line.split("  #") for line in code.splitlines() if "  # " in line and not line.startswith("far =")]
        self.assertGreater(len(told), 5)
        for line, want in told:
            if " = " not in line:
                self.assertEqual(eval(line.strip(), names), eval(want.strip(), names), line)
