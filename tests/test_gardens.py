"""[2], [60]: gardens: deeds, guards, undo, trial and attempt."""

import random
import unittest

from growwebs.books import Book
from growwebs.errors import BadBook, BadBud, BadGuard, BadPiece, BadWord, HandedOn, NoBud, NoKind, NoPlace, NoTie
from growwebs.errors import NothingToUndo, Refused, TooMany, WebError
from growwebs.gardens import Garden
from growwebs.pieces import Piece
from growwebs.rows import Row
from growwebs.rules import Rule
from tests.values import any_values
from tests.webs import hander, ladder, rails, tent, twigs

TWO = Rule("ab", ["ab"])


class Trouble(Exception):
    """An error that is none of the package."""


def is_letter(value):
    return isinstance(value, str) and len(value) == 1 and value in "abcdefghijklmnopqrstuvwxyz."


def is_word(value):
    return isinstance(value, str) and 1 <= len(value) <= 8 and not value.strip("abcdefghijklmnopqrstuvwxyz")


def told_piece(piece):
    return {"mouth": piece.mouth, "letters": piece.letters, "ties": list(piece.ties), "buds": list(piece.buds)}


class Model:
    """A garden's book as plain dicts."""

    def __init__(self, book):
        self.seed = book.seed
        self.pieces = {kind: told_piece(piece) for kind, piece in book.pieces.items()}

    def copy(self):
        other = Model.__new__(Model)
        other.seed = self.seed
        other.pieces = {kind: {name: value if isinstance(value, (int, str)) else list(value)
                               for name, value in piece.items()} for kind, piece in self.pieces.items()}
        return other

    def book(self):
        return Book(self.seed, {kind: Piece(**piece) for kind, piece in self.pieces.items()})

    def set_tie(self, kind, one, other, length):
        ties = [tie for tie in self.pieces[kind]["ties"] if {tie[0], tie[1]} != {one, other}]
        self.pieces[kind]["ties"] = ties + [(one, other, length)]

    def cut_tie(self, kind, one, other):
        ties = [tie for tie in self.pieces[kind]["ties"] if {tie[0], tie[1]} != {one, other}]
        if len(ties) == len(self.pieces[kind]["ties"]):
            raise NoTie(kind, one, other)
        self.pieces[kind]["ties"] = ties

    def set_bud(self, kind, at, bud):
        buds = self.pieces[kind]["buds"]
        if not 0 <= at <= len(buds):
            raise NoBud(kind, at)
        buds[at:at + 1] = [bud]

    def drop_bud(self, kind):
        if not self.pieces[kind]["buds"]:
            raise NoBud(kind, 0)
        self.pieces[kind]["buds"].pop()

    def set_letter(self, kind, at, letter):
        letters = self.pieces[kind]["letters"]
        if not 0 <= at < len(letters):
            raise NoPlace(at)
        self.pieces[kind]["letters"] = letters[:at] + letter + letters[at + 1:]

    def drop_kind(self, kind):
        del self.pieces[kind]

    def set_kind(self, kind, piece):
        self.pieces[kind] = told_piece(piece)


def random_deed(rng, book):
    """The name of a deed and its arguments, right ones mostly."""
    kind = rng.choice(sorted(book.pieces))
    piece = book.pieces[kind]
    places = list("abc"[:piece.mouth]) + list(range(len(piece.letters))) + [rng.choice(["c", 7, 0])]
    below = rng.choice(sorted(book.pieces))
    bud = (below, tuple(rng.sample(sorted(set(places), key=str), min(len(set(places)), max(1, book.pieces[below].mouth)))))
    return rng.choice([
        ("set_tie", (kind, rng.choice(places), rng.choice(places), rng.choice([1, 2, 5, 0]))),
        ("cut_tie", (kind, rng.choice(places), rng.choice(places))),
        ("cut_tie", (kind, *rng.choice(piece.ties or [(0, 1, 1)])[:2])),
        ("set_bud", (kind, rng.randrange(4), bud)), ("drop_bud", (kind,)),
        ("set_letter", (kind, rng.randrange(3), rng.choice("ab."))),
        ("drop_kind", (kind,)), ("set_kind", (rng.choice(["new", kind]), Piece(1, "x", [("a", 0, 3)])))])


class DeedTest(unittest.TestCase):

    def test_histories_against_plain_dicts(self):
        rng = random.Random(60)
        done = refused = 0
        for book in (ladder(), rails(), hander(), twigs(), tent()):
            garden, past = Garden(book), [Model(book)]
            for _ in range(160):
                if len(past) > 1 and rng.random() < 0.2:
                    self.assertIsNone(garden.undo())
                    past.pop()
                    continue
                name, arguments = random_deed(rng, garden.book)
                model, wanted = past[-1].copy(), None
                try:
                    getattr(model, name)(*arguments)
                    model.book()
                except WebError as error:
                    wanted = error
                if wanted is None:
                    self.assertIsNone(getattr(garden, name)(*arguments))
                    past.append(model)
                    done += 1
                else:
                    with self.assertRaises(type(wanted)) as caught:
                        getattr(garden, name)(*arguments)
                    self.assertEqual(vars(caught.exception), vars(wanted))
                    refused += 1
                self.assertEqual(garden.book, past[-1].book())
                self.assertEqual((len(garden), garden.guards), (len(past) - 1, ()))
            while len(past) > 1:
                garden.undo()
                past.pop()
                self.assertEqual(garden.book, past[-1].book())
            self.assertEqual((garden.book, len(garden)), (book, 0))
            with self.assertRaises(NothingToUndo):
                garden.undo()
        self.assertGreater(min(done, refused), 150)

    def test_each_deed(self):
        garden = Garden(ladder())
        garden.set_tie("rung", "b", 0, 4)
        garden.set_tie("rung", 0, "a", 9)
        garden.cut_tie("rung", 1, 0)
        garden.set_letter("base", 1, "q")
        garden.set_bud("rung", 1, ["rung", [1, 0]])
        garden.set_kind("leaf", Piece(1, "z"))
        garden.set_bud("base", 0, ("leaf", (1,)))
        garden.set_bud("base", 1, ("rung", (1, 0)))
        self.assertEqual(garden.book, Book("base", {
            "base": Piece(0, ".q", [(0, 1, 1)], [("leaf", (1,)), ("rung", (1, 0))]),
            "rung": Piece(2, "..", [("a", 0, 9), ("b", 1, 1), ("b", 0, 4)], [("rung", (0, 1)), ("rung", (1, 0))]),
            "leaf": Piece(1, "z")}))
        self.assertEqual(len(garden), 8)
        garden.drop_bud("base")
        garden.drop_bud("base")
        garden.drop_kind("leaf")
        self.assertEqual((len(garden), garden.book.pieces["base"].buds), (11, ()))
        for _ in range(11):
            garden.undo()
        self.assertEqual((garden.book, len(garden)), (ladder(), 0))

    def test_deeds_that_leave_the_book_as_it_was(self):
        garden = Garden(ladder())
        garden.set_letter("rung", 0, ".")
        garden.set_tie("rung", 1, 0, 1)
        garden.set_kind("rung", ladder().pieces["rung"])
        garden.set_bud("base", 0, ("rung", (0, 1)))
        self.assertEqual((garden.book, len(garden)), (ladder(), 4))

    def test_by_name(self):
        garden = Garden(book=ladder())
        garden.set_tie(length=3, other="a", one=1, kind="rung")
        garden.cut_tie(other=1, one="a", kind="rung")
        garden.set_bud(bud=("rung", (0, 1)), at=0, kind="base")
        garden.set_letter(letter="k", at=0, kind="base")
        garden.set_kind(piece=Piece(1, ""), kind="k")
        garden.drop_kind(kind="k")
        garden.drop_bud(kind="rung")
        garden.keep(guard=("finite",))
        garden.free(guard=("finite",))
        self.assertEqual(garden.trial(action=len), 9)
        self.assertEqual(garden.attempt(action=lambda told: told.book.seed), "base")

    def test_the_errors_in_their_order(self):
        garden = Garden(ladder())
        for value in any_values() + ["base ", ["base"]]:
            for call in (lambda: garden.set_tie(value, None, None, None), lambda: garden.cut_tie(value, 0, 1),
                         lambda: garden.set_bud(value, None, None), lambda: garden.drop_bud(value),
                         lambda: garden.set_letter(value, None, None), lambda: garden.drop_kind(value)):
                with self.assertRaises(NoKind) as caught:
                    call()
                self.assertIs(caught.exception.kind, value)
            if not (isinstance(value, int) and not isinstance(value, bool) and value in (0, 1)):
                with self.assertRaises(NoPlace) as caught:
                    garden.set_letter("rung", value, value)
                self.assertIs(caught.exception.told, value)
                with self.assertRaises(NoBud) as caught:
                    garden.set_bud("rung", value, value)
                self.assertEqual(caught.exception.kind, "rung")
                self.assertIs(caught.exception.number, value)
            if not is_letter(value):
                with self.assertRaises(BadWord) as caught:
                    garden.set_letter("rung", 1, value)
                self.assertIs(caught.exception.value, value)
            for call, field in ((lambda: garden.set_bud("rung", 1, value), "buds"),
                                (lambda: garden.set_tie("rung", 0, 1, value), "ties"),
                                (lambda: garden.set_tie("rung", value, value, 1), "ties")):
                if value in (1, 4, 7, 10 ** 40) and not isinstance(value, bool) and field == "ties":
                    continue
                with self.assertRaises(BadPiece) as caught:
                    call()
                self.assertEqual(caught.exception.field, field)
            for one, other in ((value, 0), ("a", value), (value, value)):
                if {one, other} <= {0, 1, "a", "b"} if isinstance(value, (int, str)) else False:
                    continue
                with self.assertRaises(NoTie) as caught:
                    garden.cut_tie("rung", one, other)
                self.assertEqual(caught.exception.kind, "rung")
                self.assertIs(caught.exception.one, one)
                self.assertIs(caught.exception.other, other)
            if not is_word(value):
                with self.assertRaises(BadBook) as caught:
                    garden.set_kind(value, Piece(1, ""))
                self.assertIs(caught.exception.kind, value)
            if not isinstance(value, Piece):
                with self.assertRaises(BadBook) as caught:
                    garden.set_kind("rung", value)
                self.assertEqual(caught.exception.kind, "rung")
        for one, other in ((True, 0), (0, True), ("a", False), (False, "a"), ("a", "b"), (0, 0), ("a", 1)):
            with self.assertRaises(NoTie):
                garden.cut_tie("rung", one, other)
        self.assertEqual((garden.book, len(garden)), (ladder(), 0))

    def test_the_errors_of_piece_and_book(self):
        garden = Garden(ladder())
        for call, error, fields in (
                (lambda: garden.set_tie("base", 0, "a", 1), BadPiece, ["ties"]),
                (lambda: garden.set_tie("rung", "b", "a", 1), BadPiece, ["ties"]),
                (lambda: garden.set_tie("rung", True, 0, 1), BadPiece, ["ties"]),
                (lambda: garden.set_bud("rung", 1, ("rung", (0, 0))), BadPiece, ["buds"]),
                (lambda: garden.set_bud("rung", 1, ("rung", (0,))), BadBud, ["rung", 1]),
                (lambda: garden.set_bud("rung", 0, ("base", (0,))), BadBud, ["rung", 0]),
                (lambda: garden.set_bud("rung", 0, ("none", (0, 1))), BadBud, ["rung", 0]),
                (lambda: garden.set_bud("rung", 1, ("rung", ("a", 0))), HandedOn, [(("rung", "a"),)]),
                (lambda: garden.drop_kind("rung"), BadBud, ["base", 0]),
                (lambda: garden.drop_kind("base"), BadBook, ["base"]),
                (lambda: garden.set_kind("base", Piece(1, ".")), BadBook, ["base"]),
                (lambda: garden.set_kind("base", Piece(0, "")), BadBook, ["base"]),
                (lambda: garden.set_kind("Rung", Piece(1, "")), BadBook, ["Rung"]),
                (lambda: garden.set_kind("rung", Piece(1, "")), BadBud, ["base", 0])):
            with self.assertRaises(error) as caught:
                call()
            self.assertEqual(list(vars(caught.exception).values()), fields)
        for kind in ("k", "m", "n", "o"):
            garden.set_kind(kind, Piece(1, ""))
        with self.assertRaises(TooMany) as caught:
            garden.set_kind("p", Piece(1, ""))
        self.assertEqual((caught.exception.most, len(garden)), (6, 4))
        for number in range(1, 4):
            garden.set_bud("rung", number, ("rung", (0, 1)))
        with self.assertRaises(BadPiece):
            garden.set_bud("rung", 4, ("rung", (0, 1)))
        self.assertEqual(len(garden), 7)


class GuardTest(unittest.TestCase):

    def check_refused(self, garden, guard, call):
        before = (garden.book, garden.guards, len(garden))
        with self.assertRaises(Refused) as caught:
            call()
        self.assertEqual(caught.exception.guard, guard)
        self.assertEqual((garden.book, garden.guards, len(garden)), before)

    def test_guards_of_each_kind(self):
        path = Piece(2, "..", [("a", 0, 1)], [("k", (0, 1))])
        for book, guard, right, wrong in (
                (ladder(), ("lead", TWO), ("set_letter", "rung", 0, "x"), ("set_tie", "rung", "b", 0, 1)),
                (ladder(), ("paired",), ("set_tie", "rung", "b", 0, 1), ("set_kind", "rung", Piece(2, "."))),
                (ladder(), ("endless",), ("cut_tie", "base", 0, 1), ("drop_bud", "rung")),
                (tent(), ("finite",), ("set_letter", "k", 0, "x"), ("set_kind", "k", path)),
                (ladder(), ("joined", ((), 0), ((0, 0), 1)), ("cut_tie", "base", 0, 1), ("drop_bud", "base")),
                (ladder(), ("within", ((), 0), ((0,), 1), 2), ("cut_tie", "rung", 0, 1), ("set_tie", "base", 0, 1, 2))):
            garden = Garden(book)
            garden.keep(guard)
            self.assertEqual(garden.guards, (guard,))
            getattr(garden, right[0])(*right[1:])
            self.check_refused(garden, guard, lambda: getattr(garden, wrong[0])(*wrong[1:]))
            garden.free(guard)
            garden.undo()
            self.assertEqual(garden.guards, (guard,))
            self.check_refused(garden, guard, lambda: getattr(garden, wrong[0])(*wrong[1:]))
            garden.free(guard)
            self.assertIsNone(getattr(garden, wrong[0])(*wrong[1:]))
            self.assertEqual((garden.guards, len(garden)), ((), 4))
            self.check_refused(garden, guard, lambda: garden.keep(guard))
            for _ in range(4):
                garden.undo()
            self.assertEqual((garden.guards, len(garden), garden.book), ((), 0, book))

    def test_guards_that_do_not_hold(self):
        garden = Garden(ladder())
        for guard in (("finite",), ("lead", Rule("a", [])), ("joined", ((), 0), ((), 2)), ("joined", ((), 0), ((1,), 0)),
                      ("joined", ((), "a"), ((), 0)), ("within", ((), 0), ((0, 0), 1), 2), ("joined", ((9,), 0), ((), 0)),
                      ("within", ((), 0), ((), 1), 0), ("joined", ((), None), ((), [])), ("joined", ((-1,), 0), ((), 0))):
            self.check_refused(garden, guard, lambda: garden.keep(guard))
        for book, guard in ((tent(), ("endless",)), (tent(), ("paired",)), (tent(), ("lead", TWO)),
                            (Book("s", {"s": Piece(0, "..")}), ("joined", ((), 0), ((), 1))),
                            (Book("s", {"s": Piece(0, "..")}), ("within", ((), 0), ((), 1), 10 ** 99))):
            garden = Garden(book)
            self.check_refused(garden, guard, lambda: garden.keep(guard))
        garden = Garden(ladder())
        garden.keep(("joined", ((0, 0), "a"), ((0,), 1)))
        garden.keep(("within", ((), 0), ((), 0), 0))
        garden.keep(("joined", ((0,) * 2000, 0), ((), 0)))
        self.assertEqual(len(garden), 3)

    def test_the_first_guard_that_would_not_hold(self):
        garden = Garden(ladder())
        near, far = ("within", ((), 0), ((), 1), 1), ("joined", ((), 0), ((0,), 1))
        for guard in (("endless",), far, near):
            garden.keep(guard)
        self.check_refused(garden, ("endless",), lambda: garden.drop_bud("base"))
        garden.free(("endless",))
        self.assertEqual(garden.guards, (far, near))
        self.check_refused(garden, far, lambda: garden.drop_bud("base"))
        self.check_refused(garden, near, lambda: garden.cut_tie("base", 0, 1))
        garden.undo()
        self.assertEqual(garden.guards, (("endless",), far, near))

    def test_guards_that_are_set_already(self):
        garden = Garden(ladder())
        rule = Rule("ba", ["ba", "ab"], {})
        garden.keep(("lead", TWO))
        self.assertIsNone(garden.keep(("lead", rule)))
        garden.keep(("within", ((), 0), ((0,), 1), 2))
        garden.keep(("within", ((), 0), ((0,), 1), 2))
        self.assertEqual((len(garden), len(garden.guards)), (2, 2))
        garden.keep(("within", ((), 0), ((0,), 1), 3))
        self.assertEqual((len(garden), len(garden.guards)), (3, 3))
        garden.free(("lead", rule))
        self.assertEqual(len(garden.guards), 2)

    def test_false_and_true_are_no_0_and_1(self):
        garden = Garden(ladder())
        guard = ("joined", ((), 0), ((0,), 1))
        garden.keep(guard)
        for other in (("joined", ((), False), ((0,), 1)), ("joined", ((), 0), ((0,), True)),
                      ("joined", ((), False), ((0,), True))):
            self.check_refused(garden, other, lambda: garden.keep(other))
            self.check_refused(garden, other, lambda: garden.free(other))
        garden.keep(("within", ((), 0), ((0,), 1), 2))
        for value in (("joined", ((), 0), ((False,), 1)), ("within", ((), 0), ((0,), 1), True)):
            with self.assertRaises(BadGuard):
                garden.keep(value)
            self.check_refused(garden, value, lambda: garden.free(value))
        self.assertEqual(len(garden), 2)

    def test_no_guards(self):
        garden = Garden(ladder())
        garden.keep(("paired",))
        wrong = any_values() + [
            ["paired"], ("paired", 0), ("pair",), ("lead",), ("lead", "ab"), ("lead", None), ("lead", TWO, 1), ("finite", True),
            ("joined", ((), 0)), ("joined", [(), 0], ((), 1)), ("joined", ([], 0), ((), 1)), ("joined", ((), 0), ((), 1), 5),
            ("joined", ((), 0, 0), ((), 1)), ("joined", (("0",), 0), ((), 1)), ("joined", ((True,), 0), ((), 1)),
            ("joined", (Row(), 0), ((), 1)), ("joined", ((0,) * 2001, 0), ((), 1)), ("joined", ((), 0), None),
            ("within", ((), 0), ((), 1)), ("within", ((), 0), ((), 1), -1), ("within", ((), 0), ((), 1), None),
            ("within", ((), 0), ((), 1), "1"), ("within", ((), 0), [(), 1], 1), ("joined", ladder().place((), 0), ((), 1)),
            (["paired"],), ("Paired",), (("paired",),)]
        for value in wrong:
            with self.assertRaises(BadGuard) as caught:
                garden.keep(value)
            self.assertIs(caught.exception.value, value)
            with self.assertRaises(Refused) as caught:
                garden.free(value)
            self.assertIs(caught.exception.guard, value)
        for value in any_values():
            told = ("joined", ((), 0), ((), value))
            if isinstance(value, int) and not isinstance(value, bool) and value in (0, 1):
                garden.keep(told)
                garden.undo()
            else:
                self.check_refused(garden, told, lambda: garden.keep(told))
                self.check_refused(garden, told, lambda: garden.free(told))
        self.assertEqual((garden.guards, len(garden)), ((("paired",),), 1))

    def test_errors_of_piece_and_book_come_ahead_of_guards(self):
        garden = Garden(ladder())
        garden.keep(("joined", ((), 0), ((0,), 1)))
        with self.assertRaises(BadBud):
            garden.drop_kind("rung")
        with self.assertRaises(BadPiece):
            garden.set_tie("base", 0, 1, 0)

    def test_undo_looks_at_no_guards(self):
        garden = Garden(ladder())
        garden.drop_bud("rung")
        garden.keep(("finite",))
        garden.set_letter("rung", 0, "z")
        garden.undo()
        garden.undo()
        garden.undo()
        self.assertEqual((garden.book, garden.guards), (ladder(), ()))


class TrialTest(unittest.TestCase):

    def test_a_trial_leaves_nothing(self):
        garden = Garden(ladder())
        garden.set_letter("base", 0, "x")
        garden.keep(("paired",))
        before = (garden.book, garden.guards, len(garden))

        def action(told):
            self.assertIs(told, garden)
            garden.free(("paired",))
            told.drop_bud("base")
            told.undo()
            told.undo()
            garden.undo()
            garden.undo()
            self.assertEqual((len(garden), garden.book), (0, ladder()))
            told.set_letter("base", 1, "y")
            return ["told", told.book.is_finite]

        self.assertEqual(garden.trial(action), ["told", False])
        self.assertEqual((garden.book, garden.guards, len(garden)), before)
        garden.undo()
        garden.undo()
        self.assertEqual(garden.book, ladder())

    def test_errors_go_on_to_the_caller(self):
        garden = Garden(ladder())
        garden.set_letter("base", 0, "x")
        before = (garden.book, garden.guards, len(garden))
        wrong = Trouble()

        def raising(error):
            def action(told):
                told.drop_bud("base")
                garden.keep(("finite",))
                raise error
            return action

        def refused(told):
            told.keep(("endless",))
            told.drop_bud("rung")

        for call in (garden.trial, garden.attempt):
            with self.assertRaises(Trouble) as caught:
                call(raising(wrong))
            self.assertIs(caught.exception, wrong)
            self.assertEqual((garden.book, garden.guards, len(garden)), before)
            with self.assertRaises(Refused) as caught:
                call(refused)
            self.assertEqual(caught.exception.guard, ("endless",))
            self.assertEqual((garden.book, garden.guards, len(garden)), before)
            with self.assertRaises(KeyboardInterrupt):
                call(raising(KeyboardInterrupt()))
            self.assertEqual((garden.book, garden.guards, len(garden)), before)

    def test_an_attempt_stays_and_is_undone_deed_by_deed(self):
        garden = Garden(ladder())

        def action(told):
            told.set_letter("base", 0, "x")
            told.keep(("paired",))
            told.set_letter("base", 1, "y")
            return len(told)

        self.assertEqual(garden.attempt(action), 3)
        self.assertEqual((garden.book.pieces["base"].letters, garden.guards, len(garden)), ("xy", (("paired",),), 3))
        garden.undo()
        self.assertEqual(garden.book.pieces["base"].letters, "x.")
        garden.undo()
        self.assertEqual(garden.guards, ())
        garden.undo()
        self.assertEqual((garden.book, len(garden)), (ladder(), 0))
        self.assertIsNone(garden.attempt(lambda told: None))

    def test_an_attempt_that_undoes_what_was_ahead_of_it(self):
        garden = Garden(ladder())
        garden.set_letter("base", 0, "x")
        garden.set_letter("base", 1, "y")

        def action(told):
            told.undo()
            told.undo()
            told.set_letter("base", 0, "q")
            if fails:
                raise Trouble()

        fails = True
        with self.assertRaises(Trouble):
            garden.attempt(action)
        self.assertEqual((garden.book.pieces["base"].letters, len(garden)), ("xy", 2))
        fails = False
        garden.attempt(action)
        self.assertEqual((garden.book.pieces["base"].letters, len(garden)), ("q.", 1))
        garden.undo()
        self.assertEqual(garden.book, ladder())

    def test_trial_and_attempt_within_one_another(self):
        garden = Garden(ladder())

        def letter(sign):
            return lambda told: told.set_letter("base", 0, sign)

        def failing(told):
            letter("z")(told)
            raise Trouble()

        def inner(told):
            letter("a")(told)
            told.attempt(letter("b"))
            told.trial(letter("c"))
            self.assertEqual(told.book.pieces["base"].letters, "b.")
            for call in (told.attempt, garden.trial):
                try:
                    call(failing)
                except Trouble:
                    pass
                self.assertEqual((told.book.pieces["base"].letters, len(told)), ("b.", 2))
            return len(garden)

        self.assertEqual(garden.trial(inner), 2)
        self.assertEqual((garden.book, len(garden)), (ladder(), 0))
        self.assertEqual(garden.attempt(inner), 2)
        self.assertEqual((garden.book.pieces["base"].letters, len(garden)), ("b.", 2))
        garden.undo()
        self.assertEqual(garden.book.pieces["base"].letters, "a.")

    def test_gardens_are_equal_only_to_themselves(self):
        self.assertNotEqual(Garden(ladder()), Garden(ladder()))
        self.assertEqual(len(Garden(ladder())), 0)


if __name__ == "__main__":
    unittest.main()
