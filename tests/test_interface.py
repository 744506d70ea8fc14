"""[2]: each function, class and method of the interface, with arguments by position, by name, and both."""

import importlib
import inspect
import unittest

from growwebs.books import Book, Place
from growwebs.cuts import Bridges, Cuts
from growwebs.depths import Depths
from growwebs.folds import Unfolding
from growwebs.gardens import Garden
from growwebs.inner import Inside
from growwebs.leads import Leads
from growwebs.marks import Marks
from growwebs.pairings import Pairings
from growwebs.pieces import Piece
from growwebs.reasons import reason
from growwebs.routes import route
from growwebs.rows import Loop, Row
from growwebs.rules import Rule
from growwebs.sights import Sight
from growwebs.tales import Tale
from growwebs.times import Times
from growwebs.ways import Ways
from tests.test_conventions import INTERFACE
from tests.webs import ladder, tent, twigs

BOOK = ladder()
ONE, OTHER = BOOK.place((), 0), BOOK.place((0, 0), 1)
PIECES = {"base": BOOK.pieces["base"], "rung": BOOK.pieces["rung"]}
RULE = Rule("abc", ["ab", "bc", "ca"])
LEAD, PAIRING = Leads(BOOK, RULE).lowest(), Pairings(BOOK).lowest()
LOOP = Loop((0,), (0,), ())
LINES = [[(1, 2)]] * 6
TWIG_ENDS = (twigs().place((0, 0), 1), twigs().place((0, 1), 0))
UNFOLDED = Unfolding(BOOK, "rung", 0)

# For each entry of the interface the object whose method it is, and its arguments.
CALLS = {
    "Piece": (None, [2, "x.", [("a", 0, 1)], [("k", ("b",))]]), "Book": (None, ["base", PIECES]),
    "Book.kind_at": (BOOK, [(0,)]), "Book.place": (BOOK, [(0,), 1]), "Book.pieces_of": (BOOK, [ONE]),
    "Book.letter_of": (BOOK, [ONE]), "Book.neighbours": (BOOK, [ONE]), "Book.grown": (BOOK, [1, 9]),
    "Row": (None, [[((0,), 3)]]), "Row.bud": (Row([((0, 1), 3)]), [1]), "Row.plain": (Row([((0,), 3)]), [3]),
    "Row.total": (Row([((0,), 3)]), []), "Row.beginning": (Row([((0,), 3)]), [2]), "Row.behind": (Row([((0,), 3)]), [2]),
    "Row.before": (Row([((0,), 3)]), [(1,)]), "Row.common": (Row([((0,), 3)]), [(0, 1)]),
    "Loop": (None, [(0,), (0,), ()]), "Loop.row_at": (LOOP, [4]), "Times": (None, [3, [(1, 0, None)]]),
    "Times.least": (Times(3, [(1, 0, None)]), []), "Times.last": (Times(3, [(1, 0, 9)]), []),
    "Times.up_to": (Times(3, [(1, 0, None)]), [9]), "Times.after": (Times(3, [(1, 0, None)]), [9]),
    "Times.nth": (Times(3, [(1, 0, None)]), [9]), "Times.ending": (Times(3, [(1, 0, None)]), []),
    "Tale": (None, [[4], LINES]), "Tale.__call__": (Tale([4], LINES), [7]), "Tale.along": (Tale([4], LINES), [2, 3]),
    "Tale.below": (Tale([4], LINES), [Tale([5], LINES)]), "Tale.meets": (Tale([4], LINES), [Tale([5], LINES)]),
    "Tale.within": (Tale([4], LINES), [9]), "Tale.silent": (Tale([None], LINES), []),
    "Tale.ending": (Tale([4], LINES), []), "Inside": (None, [BOOK]), "Inside.least": (Inside(BOOK), ["rung", "a", "b"]),
    "Inside.stretch": (Inside(BOOK), ["rung", "a", "b"]), "Inside.together": (Inside(BOOK), ["rung"]),
    "distance": (None, [ONE, OTHER]), "is_between": (None, [ONE, OTHER, ONE]), "next_places": (None, [ONE, OTHER]),
    "Ways": (None, [ONE, OTHER]), "Ways.total": (Ways(ONE, OTHER), []), "Ways.fewest_ties": (Ways(ONE, OTHER), []),
    "Ways.through": (Ways(ONE, OTHER), [ONE]), "Ways.way_at": (Ways(ONE, OTHER), [1]),
    "Ways.number_of": (Ways(ONE, OTHER), [Ways(ONE, OTHER).way_at(1)]), "Reason": (None, [0, {}, {}]),
    "reason_holds": (None, [ONE, OTHER, reason(ONE, OTHER)]), "reason": (None, [ONE, OTHER]), "Route": (None, [[], {}]),
    "route_length": (None, [ONE, OTHER, route(ONE, OTHER)]), "route": (None, [ONE, OTHER]),
    "joined": (None, [ONE, OTHER, [BOOK.place((), 1)]]), "is_cut": (None, [BOOK.place((), 1), ONE, OTHER]),
    "Cuts": (None, [ONE, OTHER]), "Cuts.total": (Cuts(*TWIG_ENDS), []), "Cuts.cut_at": (Cuts(*TWIG_ENDS), [2]),
    "Cuts.number_of": (Cuts(*TWIG_ENDS), [Cuts(*TWIG_ENDS).cut_at(1)]), "Bridges": (None, [ONE, OTHER]),
    "Bridges.total": (Bridges(ONE, OTHER), []), "Bridges.bridge_at": (Bridges(*TWIG_ENDS), [3]),
    "Bridges.number_of": (Bridges(*TWIG_ENDS), [Bridges(*TWIG_ENDS).bridge_at(1)]), "far_distance": (None, [BOOK, ONE, OTHER]),
    "tale_to": (None, [BOOK, ONE, LOOP, 0]), "tale_between": (None, [BOOK, LOOP, 0, (0,), 1]),
    "Depths": (None, [BOOK]), "Depths.exact": (Depths(BOOK), ["ties", 4]),
    "Depths.pieces_of": (Depths(BOOK), ["rung", 4]), "Depths.modulo": (Depths(BOOK), ["ties", 4, 5]),
    "Depths.least_depth": (Depths(BOOK), ["ties", 9]), "Depths.spread": (Depths(BOOK), []),
    "Depths.when": (Depths(BOOK), ["ties", 4, 1]), "lanes": (None, [BOOK, "rung", "ab"]),
    "grows_on": (None, [BOOK, "rung", "ab"]), "Sight": (None, [ONE]), "Sight.at": (Sight(ONE), [3]),
    "Sight.within": (Sight(ONE), [3]), "Sight.lettered": (Sight(ONE), [".", 3]), "Sight.nth": (Sight(ONE), [3, 1]),
    "Sight.rank": (Sight(ONE), [OTHER]), "Sight.sphere": (Sight(ONE), [3, 5]),
    "Sight.same_numbers": (Sight(ONE), [Sight(OTHER)]), "growth": (None, [ONE]), "ends": (None, [ONE]),
    "ends_along": (None, [ONE, (), (0,)]), "Marks": (None, [BOOK]), "Marks.listed": (Marks(BOOK), []),
    "Marks.undo": (Marks(BOOK), []), "Marks.undoable": (Marks(BOOK), []), "Marks.nearest": (Marks(BOOK), [ONE, "."]),
    "Marks.total": (Marks(BOOK), ["a"]), "states": (None, [BOOK, ".", 2]), "every": (None, [BOOK, "a", 2]),
    "lonely": (None, [BOOK, "."]), "Rule": (None, ["ab", ["ab"], {"x": "a"}]), "Leads": (None, [BOOK, RULE]),
    "Leads.fails_at": (Leads(tent(), Rule("ab", ["ab"])), []), "Leads.may": (Leads(BOOK, RULE), ["rung"]),
    "Leads.lowest": (Leads(BOOK, RULE), []), "Leads.bar": (Leads(tent(), Rule("ab", ["ab"])), []),
    "Leads.how_many": (Leads(BOOK, Rule("ab", ["ab"])), [100]), "Leads.of_depth": (Leads(BOOK, RULE), [9, 1000]),
    "Leads.colours_of": (Leads(BOOK, RULE), [ONE]), "Leads.pairs_of": (Leads(BOOK, RULE), [ONE, OTHER]),
    "Lead": (None, [BOOK, RULE, LEAD.table]), "Lead.colour": (LEAD, [OTHER]), "Lead.coloured": (LEAD, ["a", 4]),
    "Lead.first_apart": (LEAD, [LEAD]), "fewest_colours": (None, [BOOK]), "Pairings": (None, [BOOK]),
    "Pairings.may": (Pairings(BOOK), ["rung"]), "Pairings.fails_at": (Pairings(tent()), []),
    "Pairings.bar": (Pairings(tent()), []), "Pairings.lowest": (Pairings(BOOK), []),
    "Pairings.partners": (Pairings(BOOK), [OTHER]), "Pairing": (None, [BOOK, PAIRING.table]),
    "Pairing.partner": (PAIRING, [OTHER]), "Pairing.first_apart": (PAIRING, [PAIRING]), "same": (None, [BOOK, tent()]),
    "parting": (None, [BOOK, tent()]), "least_book": (None, [BOOK]), "Unfolding": (None, [BOOK, "rung", 0]),
    "Unfolding.led": (UNFOLDED, [OTHER]), "Unfolding.back": (UNFOLDED, [UNFOLDED.result.place((0,), 3)]),
    "Garden": (None, [BOOK]), "Garden.set_tie": (None, ["rung", 0, 1, 5]), "Garden.cut_tie": (None, ["rung", 0, 1]),
    "Garden.set_bud": (None, ["rung", 0, ("rung", (1, 0))]), "Garden.drop_bud": (None, ["rung"]),
    "Garden.set_letter": (None, ["rung", 0, "x"]), "Garden.drop_kind": (None, ["spare"]),
    "Garden.set_kind": (None, ["new", Piece(1, "")]), "Garden.keep": (None, [("endless",)]),
    "Garden.free": (None, [("paired",)]), "Garden.undo": (None, []), "Garden.trial": (None, [len]),
    "Garden.attempt": (None, [len]),
}


def spread(value):
    """What a value has, with the attributes of objects, so that it can be compared."""
    if isinstance(value, (list, tuple)):
        return [type(value).__name__] + [spread(entry) for entry in value]
    if isinstance(value, dict):
        return sorted((repr(key), spread(value[key])) for key in value)
    if isinstance(value, (Book, Place)):
        return [type(value).__name__, value.seed if isinstance(value, Book) else value.number,
                spread(value.pieces if isinstance(value, Book) else value.row)]
    if type(value).__module__.startswith("growwebs"):
        return [type(value).__name__, spread({name: told for name, told in vars(value).items() if name[0] != "_"})]
    return value


def garden():
    """A garden with something to undo, to drop and to free."""
    told = Garden(ladder())
    told.set_kind("spare", Piece(1, ""))
    told.keep(("paired",))
    return told


class InterfaceTest(unittest.TestCase):

    def entries(self):
        for name, entries in INTERFACE.items():
            module = importlib.import_module(f"growwebs.{name}")
            for entry, parameters in entries.items():
                if entry == "Tale.__call__" or "__" not in entry and entry != "Place":
                    yield module, entry, parameters

    def call(self, module, entry, positional, named):
        """What a call returns, and what its object is behind it."""
        owner, _, method = entry.partition(".")
        holder, _ = CALLS[entry]
        if owner == "Garden" and method:
            holder = garden()
        if entry == "Marks.undo":
            holder = Marks(BOOK)
            holder[ONE] = "x"
        function = getattr(holder, method) if method else getattr(module, owner)
        return spread(function(*positional, **named)), spread(holder)

    def test_by_position_by_name_and_by_both(self):
        many = 0
        for module, entry, parameters in self.entries():
            arguments = CALLS[entry][1]
            names = [parameter.lstrip("*").split("=")[0] for parameter in parameters]
            self.assertEqual(len(arguments), len(names), entry)
            plain = [not parameter.startswith("*") for parameter in parameters]
            results = []
            for count in range(sum(plain) + 1):
                named = list(zip(names, arguments))[count:]
                for order in (named, named[::-1]):
                    results.append(self.call(module, entry, arguments[:count], dict(order)))
            self.assertTrue(all(result == results[0] for result in results), entry)
            if not all(plain):
                with self.assertRaises(TypeError):
                    self.call(module, entry, arguments, {})
            many += len(results)
        self.assertGreater(many, 400)

    def test_all_entries_are_called(self):
        self.assertEqual(sorted(CALLS), sorted(entry for _, entry, _ in self.entries()))

    def test_errors_by_position_and_by_name(self):
        module = importlib.import_module("growwebs.errors")
        many = 0
        for name, error in inspect.getmembers(module, inspect.isclass):
            if error is module.WebError:
                continue
            fields = list(inspect.signature(error).parameters) if "__init__" in vars(error) else []
            values = [object() for _ in fields]
            for told in (error(*values), error(**dict(zip(fields[::-1], values[::-1])))):
                self.assertEqual(vars(told), dict(zip(fields, values)))
                self.assertEqual(type(told).__bases__, (module.WebError,))
            many += 1
        self.assertEqual(many, 34)


if __name__ == "__main__":
    unittest.main()
