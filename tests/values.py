"""Values of any kind, to be handed in where something else is expected."""

from growwebs.depths import Depths
from growwebs.ends import ends
from growwebs.errors import WebError
from growwebs.folds import Unfolding
from growwebs.gardens import Garden
from growwebs.leads import Leads
from growwebs.marks import Marks
from growwebs.pairings import Pairings
from growwebs.pieces import Piece
from growwebs.reasons import Reason
from growwebs.routes import Route
from growwebs.rows import Loop, Row
from growwebs.rules import Rule
from growwebs.sights import Sight
from growwebs.tales import Tale
from growwebs.times import Times
from tests.webs import ladder


def nested(depth, make):
    value = 0
    for _ in range(depth):
        value = make(value)
    return value


def any_values():
    """A new list of values of all kinds that the document names."""
    book = ladder()
    return [
        None, True, False, -1, 0, 1, 4, 7, 10 ** 40, -10 ** 40, 10 ** 1000, "", "a", "b", "ab", "0", "A", "none",
        "rung ", "rungrungrung", "\n", (), [], {}, (None,), [True], [False, 0], ("a",), ["a", 0],
        (0, "a", 1), {"a": 1}, {0: {1: [2]}}, [[0, 1], [[]]], ((), ((),)),
        nested(20, lambda value: [value]), nested(20, lambda value: (value,)),
        nested(20, lambda value: {"k": value}),
        book, book.place((), 0), Piece(0, "."), Row([((0,), 3)]), Loop((), (0,), ()),
        Times(2, [(0, 0, None)]), Tale([1], [[]] * 6), WebError(), [book], (book.place((), 1),),
        Reason(0, {}, {}), Route([], {}), [Route([], {})], Depths(book), Sight(book.place((), 0)),
        Marks(book), Rule("ab", ["ab"]), Leads(book, Rule("ab", ["ab"])).lowest(), Pairings(book).lowest(),
        {"a": Garden(book)}, (Pairings(book),), ends(book.place((), 0)), Unfolding(book, "rung", 0),
    ]


class Spy:
    """An object whose __eq__ may not be asked, for arguments behind a wrong one."""

    def __eq__(self, other):
        raise AssertionError("looked at")

    def __len__(self):
        raise AssertionError("looked at")
