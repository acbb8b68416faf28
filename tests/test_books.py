"""Books: [29] of the document."""

import contextlib
import inspect
import random
import unittest

from surelyset import books as module
from surelyset.books import Book, GuardedBook, GuardedLoggedBook, LoggedBook
from surelyset.programs import Program
from surelyset.states import faults, verdict
from tests.support import any_values, failure, main_of, sample

P = Program(sample())
KINDS = (Book, GuardedBook, LoggedBook, GuardedLoggedBook)
LOGGED = (LoggedBook, GuardedLoggedBook)
GUARDED = (GuardedBook, GuardedLoggedBook)
SETTING = ("main", {}, [("set", "x")])
BARE = Program(main_of([], {"x": "plain"}))


class Oops(Exception):
    """What actions in the tests raise."""


def numbered(many):
    """Programs that differ from each other."""
    return [Program(main_of([("set", "x")] * at, {"x": "plain"})) for at in range(many)]


def state_of(book):
    return book.program, book.undoable, book.redoable, book.depth


def oops(book):
    raise Oops


class EditTest(unittest.TestCase):
    def test_example(self):
        book = GuardedBook(P)
        book["f"] = SETTING
        self.assertEqual([(), 1, None, True], [book.faults(), book.undoable, book.undo(), book.program == P])

    def test_edits_of_all_kinds(self):
        for kind in KINDS:
            one, two, three, *_ = numbered(4)
            book = kind(one)
            self.assertEqual((one, 0, 0, 0), state_of(book))
            self.assertIsNone(book.edit(two))
            self.assertEqual((two, 1, 0, 0), state_of(book))
            book.program = three
            self.assertEqual((three, 2, 0, 0), state_of(book))
            book["g"] = ("main", {}, [("set", "x")])
            self.assertEqual((three.with_function("g", ("main", {}, [("set", "x")])), 3, 0, 0), state_of(book))
            self.assertEqual(("main", {}, (("set", "x"),)), book["g"])
            book["g"] = ("main", {}, [])
            self.assertEqual(((), 4), (book["g"][2], book.undoable))
            self.assertIsNone(book.remove("g"))
            self.assertEqual((three, 5, 0, 0), state_of(book))
            self.assertIsNone(book.undo(5))
            self.assertEqual((one, 0, 5, 0), state_of(book))
            self.assertIsNone(book.redo(2))
            self.assertEqual((three, 2, 3, 0), state_of(book))
            self.assertIsNone(book.redo())
            self.assertIsNone(book.undo())
            self.assertEqual((three, 2, 3, 0), state_of(book))

    def test_errors_of_edits(self):
        """They are those of programs, and nothing is changed."""
        for kind in KINDS:
            book = kind(P)
            book.edit(BARE)
            book.undo()
            for action in (lambda: book.remove("f"), lambda: book.remove("g"), lambda: book.remove("f", "f"),
                           lambda: book.__setitem__("f", ("nix", {}, [])), lambda: book.__setitem__("f", 1),
                           lambda: book.__setitem__("f", ("main", {}, [("call", "g")])), lambda: book["g"],
                           lambda: book.__setitem__("F", ("main", {}, []))):
                self.assertIsNotNone(failure(action))
                self.assertEqual((P, 0, 1, 0), state_of(book))
            self.assertEqual(("UnknownFunction", {"value": "f"}), failure(lambda: book.remove("f", "f")))
            self.assertEqual(("InvalidFunction", {"name": "f"}), failure(lambda: book.__setitem__("f", ("nix", {}, []))))
            for value in any_values():
                if value not in ("main", "f"):
                    want = ("UnknownFunction", {"value": value})
                    self.assertEqual([want, want], [failure(lambda: book[value]), failure(book.remove, value)])
                else:
                    self.assertEqual(P[value], book[value])
            self.assertEqual((P, 0, 1, 0), state_of(book))

    def test_an_edit_makes_redoing_impossible(self):
        for kind in KINDS:
            programs = numbered(4)
            book = kind(programs[0])
            for program in programs[1:]:
                book.edit(program)
            book.undo(2)
            self.assertEqual((1, 2), (book.undoable, book.redoable))
            # Also one that changes nothing.
            book.edit(programs[1])
            self.assertEqual((programs[1], 2, 0, 0), state_of(book))
            self.assertEqual(("OutOfRange", {"value": 1}), failure(book.redo))
            book.undo()
            self.assertEqual((programs[1], 1, 1, 0), state_of(book))
            book.remove()
            self.assertEqual((programs[1], 2, 0, 0), state_of(book))
            book["main"] = book["main"]
            self.assertEqual((programs[1], 3, 0, 0), state_of(book))

    def test_counts(self):
        for kind in KINDS:
            book = kind(BARE)
            for value in any_values():
                want = ("OutOfRange", {"value": value})
                self.assertEqual([want, want], [failure(book.undo, value), failure(book.redo, value)])
            for program in numbered(7):
                book.edit(program)
            book.undo(3)
            for value in any_values():
                is_right = value.__class__ is int and value == 1
                self.assertEqual(None if is_right else ("OutOfRange", {"value": value}), failure(book.undo, value))
                self.assertEqual(None if is_right else ("OutOfRange", {"value": value}), failure(book.redo, value))
            for value, way in ((5, book.undo), (4, book.redo), (0, book.undo), (-1, book.redo), (1.0, book.undo)):
                self.assertEqual(("OutOfRange", {"value": value}), failure(way, value))
            self.assertEqual((4, 3), (book.undoable, book.redoable))
            book.redo(count=3)
            book.undo(count=7)
            self.assertEqual((BARE, 0, 7, 0), state_of(book))

    def test_questions(self):
        for kind in KINDS:
            book = kind(P)
            self.assertEqual((faults(P), "sure"), (book.faults(), book.verdict(("main", (1,)), "y")))
            self.assertEqual("fault", book.verdict(name="x", spot=("main", (1,))))
            self.assertEqual(("UnknownSpot", {"value": 1}), failure(book.verdict, 1, "x"))
            self.assertEqual(("UnknownName", {"value": "z"}), failure(book.verdict, ("main", (1,)), "z"))
            book["f"] = SETTING
            self.assertEqual(((), "sure"), (book.faults(), book.verdict(("main", (1,)), "x")))

    def test_equality(self):
        books = [kind(P) for kind in KINDS] + [GuardedBook(BARE, ("main", "x"))]
        for one in books:
            for other in books:
                self.assertEqual(one.program == other.program, one == other)
            for value in [*any_values(), P]:
                self.assertFalse(one == value)
                self.assertTrue(one != value)
        one, other = Book(P), LoggedBook(BARE)
        other.edit(P)
        self.assertTrue(one == other)
        other.undo()
        self.assertFalse(one == other)

    def test_no_iteration(self):
        for kind in KINDS:
            for action in (iter, list, lambda book: [*book], lambda book: "f" in book):
                with self.assertRaises(TypeError):
                    action(kind(P))

    def test_properties(self):
        for kind in KINDS:
            for name in ("undoable", "redoable", "depth"):
                with self.assertRaises(AttributeError):
                    setattr(kind(P), name, 1)


class TrialTest(unittest.TestCase):
    def test_trials(self):
        for kind in KINDS:
            one, two, three, four, five = numbered(5)
            book = kind(one)
            for program in (two, three, four):
                book.edit(program)
            book.undo(2)
            before = state_of(book)
            with book.trial() as held:
                self.assertIs(held, book)
                self.assertEqual((two, 1, 2, 1), state_of(book))
                held.edit(five)
                held.edit(one)
                self.assertEqual((one, 3, 0, 1), state_of(book))
            self.assertEqual(before, state_of(book))
            book.redo(2)
            self.assertEqual(four, book.program)
            book.undo(3)
            self.assertEqual(one, book.program)

    def test_trials_that_raise(self):
        for kind in KINDS:
            book = kind(P)
            with self.assertRaises(Oops):
                with book.trial():
                    book.edit(BARE)
                    raise Oops
            self.assertEqual((P, 0, 0, 0), state_of(book))
            for error in (KeyboardInterrupt, GeneratorExit, SystemExit):
                with self.assertRaises(error):
                    with book.trial():
                        book.edit(BARE)
                        raise error
            self.assertEqual((P, 0, 0, 0), state_of(book))

    def test_attempts(self):
        for kind in KINDS:
            book = kind(P)
            self.assertEqual(7, book.attempt(lambda held: (held.edit(BARE), held.edit(P), 7)[2]))
            self.assertEqual((P, 2, 0, 0), state_of(book))
            book.undo()
            self.assertEqual((BARE, 1, 1, 0), state_of(book))
            self.assertIs(book, book.attempt(lambda held: held))
            self.assertEqual((BARE, 1, 1, 0), state_of(book))
            for error in (Oops, KeyError, KeyboardInterrupt):
                def action(held):
                    held.edit(P)
                    raise error
                with self.assertRaises(error):
                    book.attempt(action)
                self.assertEqual((BARE, 1, 1, 0), state_of(book))

    def test_tries(self):
        for kind in KINDS:
            book = kind(P)
            book.edit(BARE)
            book.undo()

            def action(held):
                held.edit(BARE)
                return held, held.program, held.depth
            self.assertEqual((book, BARE, 1), book.tried(action))
            self.assertEqual((P, 0, 1, 0), state_of(book))
            self.assertEqual(("Oops", {}), failure(book.tried, oops))
            self.assertEqual((P, 0, 1, 0), state_of(book))
            book.redo()
            self.assertEqual(BARE, book.program)

    def test_in_trial(self):
        """undo and redo raise InTrial ahead of all else."""
        for kind in KINDS:
            book = kind(P)
            book.edit(BARE)
            told = []

            def action(held):
                for value in any_values():
                    told.extend([failure(held.undo, value), failure(held.redo, value)])
                told.extend([failure(held.undo), failure(held.redo)])
            with book.trial():
                action(book)
            book.attempt(action)
            book.tried(action)
            book.tried(lambda held: held.attempt(action))
            self.assertEqual({("InTrial", ())}, {(name, tuple(fields)) for name, fields in told})
            self.assertEqual((BARE, 1, 0, 0), state_of(book))
            self.assertIsNone(book.undo())

    def test_in_one_another(self):
        for kind in KINDS:
            one, two, three, four, five = numbered(5)
            book = kind(one)

            def inner(held):
                self.assertEqual(3, held.depth)
                held.edit(four)
                return held.program

            def failing(held):
                held.edit(five)
                held.attempt(inner_edit)
                raise Oops

            def inner_edit(held):
                held.edit(three)
            with book.trial():
                book.edit(two)
                with book.trial():
                    self.assertEqual(2, book.depth)
                    self.assertEqual(four, book.attempt(inner))
                    self.assertEqual((four, 2, 0, 2), state_of(book))
                    self.assertEqual(four, book.tried(inner))
                    self.assertEqual((four, 2, 0, 2), state_of(book))
                self.assertEqual((two, 1, 0, 1), state_of(book))
                self.assertEqual("Oops", failure(book.attempt, failing)[0])
                self.assertEqual((two, 1, 0, 1), state_of(book))
                self.assertEqual("Oops", failure(book.tried, failing)[0])
                book.attempt(inner_edit)
                self.assertEqual((three, 2, 0, 1), state_of(book))
            self.assertEqual((one, 0, 0, 0), state_of(book))
            book.attempt(lambda held: (held.edit(two), failure(held.attempt, failing), held.attempt(inner_edit)))
            self.assertEqual((three, 2, 0, 0), state_of(book))
            book.undo()
            self.assertEqual(two, book.program)

    def test_two_trials_at_once(self):
        book = Book(P)
        first, second = book.trial(), book.trial()
        with first:
            book.edit(BARE)
            with second:
                book.edit(P)
            self.assertEqual((BARE, 1, 0, 1), state_of(book))
        self.assertEqual((P, 0, 0, 0), state_of(book))

    def test_depth_counts_what_goes_on(self):
        """Blocks one behind the other, and blocks that end in another order than that in which they began."""
        for kind in KINDS:
            book = kind(P)
            for _ in range(5):
                with book.trial():
                    self.assertEqual(1, book.depth)
                    for many in range(3):
                        self.assertEqual((2, many), book.tried(lambda held: (held.depth, many)))
                        self.assertEqual(2, book.attempt(lambda held: held.depth))
                        self.assertEqual("Oops", failure(book.attempt, oops)[0])
                        self.assertEqual(1, book.depth)
                self.assertEqual(0, book.depth)
            open_trials = [contextlib.ExitStack() for _ in range(4)]
            for many, trial in enumerate(open_trials):
                self.assertIs(book, trial.enter_context(book.trial()))
                self.assertEqual(many + 1, book.depth)
            for many, at in ((3, 1), (2, 3), (1, 0)):
                open_trials[at].close()
                self.assertEqual(many, book.depth)
                self.assertEqual(many + 1, book.tried(lambda held: held.depth))
                self.assertEqual("InTrial", failure(book.undo)[0])
            open_trials[2].close()
            self.assertEqual((P, 0, 0, 0), state_of(book))

    def test_many_blocks_in_one_another(self):
        book = GuardedLoggedBook(P)
        with contextlib.ExitStack() as trials:
            for many in range(200):
                self.assertEqual(many, book.depth)
                trials.enter_context(book.trial())
            book.edit(BARE)
            self.assertEqual((BARE, 1, 0, 200), state_of(book))
        self.assertEqual((P, 0, 0, 0), state_of(book))
        self.assertEqual((("edit", BARE), *[("trial",)] * 200), book.log)

    def test_trial_begins_with_its_block(self):
        book = Book(P)
        trial = book.trial()
        book.edit(BARE)
        self.assertEqual(0, book.depth)
        with trial:
            book.edit(P)
        self.assertEqual((BARE, 1, 0, 0), state_of(book))


class GuardTest(unittest.TestCase):
    def test_guards_of_names(self):
        for kind in GUARDED:
            self.assertEqual(("Faulty", {"spot": ("main", (1,))}), failure(kind, P, ("main", "x")))
            for guards in ((), (("main", "y"),), (("f", "x"),), (("g", "x"), ("f", "z"), ("f", "z")), (("x", "main"),)):
                book = kind(P, *guards)
                self.assertEqual((guards, P), (book.guards, book.program))
                self.assertIsInstance(book.guards, tuple)
            mended = P.with_function("f", SETTING)
            book = kind(mended, ("main", "x"))
            for action in (lambda: book.edit(P), lambda: setattr(book, "program", P),
                           lambda: book.__setitem__("f", ("main", {}, [])),
                           lambda: book.__setitem__("f", ("main", {}, [("read", "x"), ("set", "x")]))):
                self.assertEqual("Faulty", failure(action)[0])
                self.assertEqual((mended, 0, 0, 0), state_of(book))
            self.assertEqual(("Faulty", {"spot": ("f", (0,))}),
                             failure(lambda: book.__setitem__("f", ("main", {}, [("read", "x")]))))
            book["f"] = ("main", {"x": "plain"}, [("read", "x"), ("fail", "w")])
            self.assertEqual(1, book.undoable)

    def test_removing(self):
        """What a program does not have has no faults; an edit may bring one by removing."""
        functions = {"main": (None, {"x": "plain"}, [("call", "f")]), "f": ("main", {"x": "given"}, [("call", "g")]),
                     "g": ("f", {}, [("read", "x")])}
        for kind in GUARDED:
            book = kind(Program(functions), ("main", "x"), ("f", "x"), ("g", "x"))
            book["main"] = (None, {"x": "plain"}, [])
            book.remove("g", "f")
            book["f"] = ("main", {}, [("read", "x")])
            self.assertEqual(("Faulty", {"spot": ("f", (0,))}), failure(book.__setitem__, "main", (None, {"x": "plain"}, [("call", "f")])))
            book["main"] = (None, {"x": "given"}, [("call", "f")])
            self.assertEqual(4, book.undoable)

    def test_guards_of_arrays(self):
        functions = main_of([("look", "a", 1), ("read", "x"), ("look", "b", 0)], {"a": (3, ((0, 1),)), "b": (1, ()), "x": "plain"})
        for kind in GUARDED:
            for guards, spot in (([("main", "a")], 0), ([("main", "b")], 2), ([("main", "x")], 1),
                                 ([("main", "b"), ("main", "x")], 1), ([("main", "b"), ("main", "a")], 0)):
                self.assertEqual(("Faulty", {"spot": ("main", (spot,))}), failure(kind, Program(functions), *guards))
            functions["main"][1]["a"] = (3, ((1, 2),))
            self.assertIsNone(failure(kind, Program(functions), ("main", "a")))
            functions["main"][1]["a"] = (3, ((0, 1),))

    def test_behind_all_other_errors(self):
        for kind in GUARDED:
            book = kind(BARE, ("main", "x"))
            wrong = (None, {"x": "plain"}, [("read", "x"), ("call", "nix")])
            self.assertEqual(("InvalidStatement", {"spot": ("main", (1,))}), failure(book.__setitem__, "main", wrong))
            self.assertEqual(("UnknownFunction", {"value": "f"}), failure(book.remove, "f"))
            for value in any_values():
                if value != ("set", "x"):
                    want = ("InvalidPlaces", {"value": value})
                    self.assertEqual(want, failure(kind, P, ("main", "x"), value, 3, ("main", "x")))
                self.assertEqual(("InvalidPlaces", {"value": (value, "X")}), failure(kind, P, (value, "X")))
            for guard in (["main", "x"], ("main", "x", 0), ("main",), ("main", "xX"), ("", "x"), ("main", ""), "mx", ("main", 1)):
                self.assertEqual(("InvalidPlaces", {"value": guard}), failure(kind, P, ("main", "y"), guard, ("a", 1)))

    def test_undo_and_redo_and_ends_look_at_nothing(self):
        """Within a trial a guarded book may hold no faulty program either."""
        for kind in GUARDED:
            book = kind(BARE, ("main", "x"))
            told = []
            with book.trial():
                told.append(failure(book.edit, P))
                book["main"] = (None, {"x": "given"}, [("read", "x")])
            self.assertEqual([("Faulty", {"spot": ("main", (1,))})], told)
            self.assertEqual(("Faulty", {"spot": ("main", (1,))}), failure(book.attempt, lambda held: held.edit(P)))
            self.assertEqual((BARE, 0, 0, 0), state_of(book))

    def test_repeats(self):
        guards = (("main", "y"), ("f", "z"), ("main", "y"), ("nix", "nix"))
        for kind in GUARDED:
            self.assertEqual(guards, kind(P, *guards).guards)


class LogTest(unittest.TestCase):
    def test_log(self):
        for kind in LOGGED:
            book = kind(P)
            self.assertEqual((), book.log)
            book.edit(BARE)
            book.program = P
            book["f"] = SETTING
            mended = book.program
            book["main"] = (None, {"x": "given"}, [("call", "f")])
            failure(book.remove, "g")
            given = book.program
            book.undo(2)
            book.redo()
            failure(book.undo, 9)
            failure(book.redo, 9)
            self.assertEqual((("edit", BARE), ("edit", P), ("edit", mended), ("edit", given), ("undo", 2), ("redo", 1)), book.log)
            self.assertIsInstance(book.log, tuple)

    def test_errors_are_not_logged(self):
        for kind in LOGGED:
            book = kind(P)
            for action in (book.undo, book.redo, lambda: book.remove("f"), lambda: book["g"],
                           lambda: book.__setitem__("f", 1)):
                self.assertIsNotNone(failure(action))
            book.faults()
            book.verdict(("main", (0,)), "x")
            self.assertEqual((), book.log)
        book = GuardedLoggedBook(BARE, ("main", "x"))
        self.assertIsNotNone(failure(book.edit, P))
        self.assertEqual((), book.log)

    def test_trials(self):
        """In the order of ending; what was done in a trial stays in the log."""
        one, two, three, four, _ = numbered(5)
        for kind in LOGGED:
            book = kind(one)

            def inner(held):
                held.edit(three)

            def failing(held):
                held.edit(four)
                held.undo()
            with book.trial():
                book.edit(two)
                book.attempt(inner)
                failure(book.attempt, failing)
                with book.trial():
                    pass
                failure(book.tried, failing)
                book.tried(inner)
                self.assertEqual(11 - 1, len(book.log))
            book.edit(four)
            want = [("edit", two), ("edit", three), ("attempt", True), ("edit", four), ("attempt", False), ("trial",),
                    ("edit", four), ("trial",), ("edit", three), ("trial",), ("trial",), ("edit", four)]
            self.assertEqual(tuple(want), book.log)
            self.assertTrue(all(entry[1] is True or entry[1] is False for entry in book.log if entry[0] == "attempt"))
            self.assertEqual((four, 1, 0, 0), state_of(book))

    def test_a_trial_that_raises(self):
        for kind in LOGGED:
            book = kind(P)
            with self.assertRaises(Oops):
                with book.trial():
                    book.attempt(oops)
            self.assertEqual((("attempt", False), ("trial",)), book.log)

    def test_log_is_new(self):
        book = LoggedBook(P)
        log = book.log
        book.edit(BARE)
        self.assertEqual(((), (("edit", BARE),)), (log, book.log))

    def test_without_a_log(self):
        for kind in (Book, GuardedBook):
            self.assertFalse(hasattr(kind(P), "log"))
        for kind in (Book, LoggedBook):
            self.assertFalse(hasattr(kind(P), "guards"))


class RandomTest(unittest.TestCase):
    def test_like_lists(self):
        """A book behaves like two lists, of what can be undone and redone."""
        programs = numbered(6)
        for seed in range(60):
            chance = random.Random(seed)
            book = KINDS[seed % 4](programs[0])
            self.go_on(chance, book, programs, {"done": [programs[0]], "undone": []}, 3)

    def go_on(self, chance, book, programs, plain, deep):
        depth = book.depth
        for _ in range(chance.randrange(8)):
            kind = chance.choice(["edit", "edit", "undo", "redo", "trial", "attempt", "tried"])
            if kind == "edit":
                plain["done"].append(chance.choice(programs))
                plain["undone"].clear()
                book.edit(plain["done"][-1])
            elif kind in ("undo", "redo"):
                self.undo_or_redo(chance, book, plain, kind, depth)
            elif deep:
                self.inner(chance, book, programs, plain, deep, kind)
            self.assertEqual((plain["done"][-1], len(plain["done"]) - 1, len(plain["undone"]), depth), state_of(book))

    def undo_or_redo(self, chance, book, plain, kind, depth):
        many = chance.randrange(4)
        source, goal = (plain["done"][1:], "undone") if kind == "undo" else (plain["undone"], "done")
        told = failure(book.undo if kind == "undo" else book.redo, many)
        if depth:
            self.assertEqual(("InTrial", {}), told)
        elif not 1 <= many <= len(source):
            self.assertEqual(("OutOfRange", {"value": many}), told)
        else:
            self.assertIsNone(told)
            for _ in range(many):
                plain[goal].append(plain["done" if kind == "undo" else "undone"].pop())

    def inner(self, chance, book, programs, plain, deep, kind):
        before = {"done": list(plain["done"]), "undone": list(plain["undone"])}
        is_wrong = chance.random() < 0.3

        def action(held):
            self.go_on(chance, held, programs, plain, deep - 1)
            if is_wrong:
                raise Oops
            return 5
        try:
            if kind == "trial":
                with book.trial() as held:
                    action(held)
            else:
                self.assertEqual(5, (book.attempt if kind == "attempt" else book.tried)(action))
            self.assertFalse(is_wrong)
        except Oops:
            self.assertTrue(is_wrong)
        if is_wrong or kind != "attempt":
            plain.update(before)


class InterfaceTest(unittest.TestCase):
    def test_own_methods(self):
        """Each one stands in the class for which the interface lists it."""
        methods = ["__init__", "__iter__", "__getitem__", "__setitem__", "__eq__", "edit", "remove", "undo", "redo", "faults",
                   "verdict", "trial", "attempt", "tried"]
        for name in methods:
            self.assertTrue(inspect.isfunction(vars(Book)[name]), name)
        for kind, names in ((Book, "program undoable redoable depth"), (GuardedBook, "guards"), (LoggedBook, "log"),
                            (GuardedLoggedBook, "guards log")):
            self.assertIn("__init__", vars(kind))
            for name in names.split():
                self.assertIsInstance(vars(kind)[name], property)
        self.assertIsNotNone(Book.program.fset)

    def test_kinds(self):
        self.assertTrue(issubclass(GuardedBook, Book) and issubclass(LoggedBook, Book))
        self.assertTrue(issubclass(GuardedLoggedBook, GuardedBook) and issubclass(GuardedLoggedBook, LoggedBook))
        self.assertEqual([kind.__name__ for kind in KINDS],
                         [name for name in ("Book", "GuardedBook", "LoggedBook", "GuardedLoggedBook") if hasattr(module, name)])

    def test_arguments(self):
        names = {"edit": "program", "undo": "count", "redo": "count", "verdict": "spot name", "attempt": "action",
                 "tried": "action", "remove": "names", "faults": "", "trial": ""}
        for name, want in names.items():
            self.assertEqual(["self", *want.split()], list(inspect.signature(getattr(Book, name)).parameters))
        for kind in KINDS:
            want = ["program", "guards"] if kind in GUARDED else ["program"]
            self.assertEqual(want, list(inspect.signature(kind).parameters))
            book = kind(program=P)
            book.edit(program=BARE)
            book.undo(count=1)
            book.redo(count=1)
            self.assertEqual((P, 3), (book.tried(action=lambda held: P), book.attempt(action=lambda held: 3)))
            self.assertEqual("fault", book.verdict(name="x", spot=("main", (0,))))
            self.assertEqual(verdict(BARE, ("main", (0,)), "x"), book.verdict(("main", (0,)), "x"))
        self.assertEqual(Program(sample()), P)


if __name__ == "__main__":
    unittest.main()
