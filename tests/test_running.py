"""Runs with given choices: [13], [14], [16] of the document."""

import random
import unittest

from surelyset.programs import Program
from surelyset.running import Run, run
from tests.makers import SmallMaker
from tests.support import any_values, failure, kept, main_of, sample

SIZE = 10 ** 30


def ran(body, choices=(), names=None, **more):
    """What a run of main alone tells: its ending, steps, used choices, and the values that it read."""
    return summary(run(Program(main_of(body, names)), list(choices), **more))


def summary(told):
    return told.ending, told.steps, told.used, [is_set for _, is_set in told.events]


def read_x(*statements):
    """The values that reads of a plain x have in main."""
    return ran(list(statements), names={"x": "plain"})[3]


class Stop(Exception):
    pass


class PlainRun:
    """A second reading: a run by recursion."""

    def __init__(self, functions, choices, most):
        self.functions = kept(functions)
        self.choices = choices
        self.most = most
        self.steps = self.used = 0
        self.events = []

    def told(self):
        try:
            ending = self.call("main", [])
        except Stop as stop:
            ending = stop.args[0]
        return tuple(self.events), ending, self.steps, self.used

    def step(self):
        if self.steps + 1 > self.most:
            raise Stop("most")
        self.steps += 1

    def choice(self):
        if self.used == len(self.choices):
            raise Stop("open")
        self.used += 1
        return self.choices[self.used - 1]

    def call(self, name, chain):
        parent, own, body = self.functions[name]
        while chain and chain[0][0] != parent:
            chain = chain[1:]
        values = {}
        for word, kind in own.items():
            if isinstance(kind, str):
                values[word] = kind == "given"
            else:
                for cell in range(kind[0]):
                    values[(word, cell)] = any(first <= cell < behind for first, behind in kind[1])
        outcome = self.block((name, ()), body, [(name, own, values), *chain], {})
        return "done" if outcome == "back" else outcome

    def block(self, lead, block, chain, counters):
        for at, statement in enumerate(block):
            outcome = self.statement((lead[0], (*lead[1], at)), statement, chain, counters)
            if outcome != "done":
                return outcome
        return "done"

    def statement(self, spot, statement, chain, counters):
        self.step()

        def part(number, block, counters=counters):
            return self.block((spot[0], (*spot[1], number)), block, chain, counters)

        head, *rest = statement
        if head == "either":
            at = self.choice()
            return part(at, rest[at])
        if head == "fail":
            return f"fail {rest[0]}"
        if head in ("leave", "next", "back"):
            return head
        if head == "call":
            return self.call(rest[0], chain)
        if head == "try":
            return self.do_try(part, *rest)
        if head in ("while", "ever", "count"):
            return self.loop(part, head, rest, counters)
        values = next(values for _, own, values in chain if rest[0] in own)
        key = rest[0]
        if len(rest) == 2:
            key = (rest[0], rest[1] if isinstance(rest[1], int) else counters[rest[1][0]] + rest[1][1])
        if head in ("read", "look"):
            self.events.append((spot, values[key]))
        else:
            values[key] = head in ("set", "put")
        return "done"

    def do_try(self, part, inner, handlers, last):
        outcome = part(0, inner)
        for at, (words, block) in enumerate(handlers):
            if outcome[:5] == "fail " and (not words or outcome[5:] in words):
                outcome = part(1 + at, block)
                break
        if last:
            other = part(1 + len(handlers), last)
            outcome = outcome if other == "done" else other
        return outcome

    def loop(self, part, head, rest, counters):
        at = 0
        while True:
            if head == "while" and self.choice() == 0:
                return "done"
            if head == "count" and rest[1] + at >= rest[2]:
                return "done"
            self.step()
            inner = {**counters, rest[0]: rest[1] + at} if head == "count" else counters
            outcome = part(0, rest[-1], inner)
            at += 1
            if outcome == "leave":
                return "done"
            if outcome not in ("done", "next"):
                return outcome


class RunTest(unittest.TestCase):
    def test_document(self):
        told = run(Program(sample()), [1, 0, 1])
        self.assertEqual([((("main", (1,)), False),), "done", 5, 3],
                         [told.events, told.ending, told.steps, told.used])
        self.assertEqual("fail w", run(Program(sample()), [1, 0, 0]).ending)

    def test_names(self):
        self.assertEqual([False, True, True, False],
                         read_x(("read", "x"), ("set", "x"), ("read", "x"), ("set", "x"), ("read", "x"),
                                ("drop", "x"), ("read", "x")))
        self.assertEqual([True, False], ran([("read", "x"), ("drop", "x"), ("read", "x")], names={"x": "given"})[3])

    def test_cells(self):
        names = {"a": (SIZE, ((0, 2), (SIZE - 1, SIZE))), "b": (3, ())}
        body = [("look", "a", 0), ("look", "a", 1), ("look", "a", 2), ("look", "a", SIZE - 1), ("look", "a", SIZE - 2),
                ("cut", "a", 1), ("put", "a", 2), ("look", "a", 1), ("look", "a", 2), ("look", "a", 0),
                ("look", "b", 2)]
        self.assertEqual([True, True, False, True, False, False, True, True, False], ran(body, names=names)[3])
        body = [("count", "v", -2, 1, [("put", "b", ("v", 2)), ("look", "b", ("v", 2)), ("look", "b", 2)])]
        self.assertEqual(("done", 13, 0, [True, False, True, False, True, True]), ran(body, names=names))
        body = [("count", "v", SIZE - 2, SIZE, [("look", "a", ("v", 0)), ("look", "a", ("v", 2 - SIZE))])]
        self.assertEqual([False, True, True, True], ran(body, names=names)[3])

    def test_events_have_spots(self):
        body = [("either", [], [("while", [("read", "x")])]), ("count", "v", 0, 2, [("look", "a", ("v", 0))])]
        told = run(Program(main_of(body, {"x": "given", "a": (2, ((1, 2),))})), [1, 1, 1, 0])
        self.assertEqual(((("main", (0, 1, 0, 0, 0)), True), (("main", (0, 1, 0, 0, 0)), True),
                          (("main", (1, 0, 0)), False), (("main", (1, 0, 0)), True)), told.events)

    def test_either(self):
        body = [("either", [("fail", "a")], [("fail", "b")], [])]
        self.assertEqual(("fail a", 2, 1, []), ran(body, [0]))
        self.assertEqual(("fail b", 2, 1, []), ran(body, [1]))
        self.assertEqual(("done", 1, 1, []), ran(body, [2, 0, 0]))
        self.assertEqual(("open", 1, 0, []), ran(body))
        # The choice of an either comes behind its step, so it is not needed where the step is one too many.
        self.assertEqual(("most", 0, 0, []), ran(body, most=0))
        self.assertEqual(("most", 0, 0, []), ran(body, [9], most=0))
        self.assertEqual(("open", 1, 0, []), ran(body, most=1))
        self.assertEqual(("most", 1, 1, []), ran(body, [0], most=1))

    def test_while(self):
        body = [("while", [("read", "x")])]
        names = {"x": "plain"}
        self.assertEqual(("open", 1, 0, []), ran(body, names=names))
        self.assertEqual(("done", 1, 1, []), ran(body, [0], names))
        self.assertEqual(("open", 3, 1, [False]), ran(body, [1], names))
        self.assertEqual(("done", 7, 4, [False] * 3), ran(body, [1, 1, 1, 0, 1], names))
        # The choice of a round comes ahead of its step, so it is used where the step is one too many.
        self.assertEqual(("most", 1, 1, []), ran(body, [1], names, most=1))
        self.assertEqual(("open", 1, 0, []), ran(body, [], names, most=1))
        self.assertEqual(("most", 2, 1, []), ran(body, [1], names, most=2))
        self.assertEqual(("open", 3, 1, [False]), ran(body, [1], names, most=3))

    def test_ever(self):
        self.assertEqual(("most", 1000, 0, []), ran([("ever", [])]))
        self.assertEqual(("most", 7, 0, []), ran([("ever", [])], most=7))
        body = [("ever", [("either", [("leave",)], [])]), ("fail", "a")]
        self.assertEqual(("fail a", 9, 3, []), ran(body, [1, 1, 0]))
        self.assertEqual(("open", 7, 2, []), ran(body, [1, 1]))

    def test_count(self):
        for low, high, rounds in ((0, 0, 0), (5, 4, 0), (SIZE, -SIZE, 0), (0, 1, 1), (-SIZE, 1 - SIZE, 1), (-3, 4, 7)):
            self.assertEqual(("done", 1 + 2 * rounds, 0, [False] * rounds),
                             ran([("count", "v", low, high, [("read", "x")])], names={"x": "plain"}))
        self.assertEqual(("most", 10000, 0, []), ran([("count", "v", 0, SIZE, [])], most=10000))
        self.assertEqual(("most", 4, 0, []), ran([("count", "v", 0, 4, [])], most=4))
        self.assertEqual(("done", 5, 0, []), ran([("count", "v", 0, 4, [])], most=5))

    def test_leave_and_next(self):
        names = {"x": "plain"}
        for head, many in (("while", 1), ("ever", 0)):
            body = [(head, [("set", "x"), ("leave",), ("drop", "x")]), ("read", "x")]
            self.assertEqual(("done", 5, many, [True]), ran(body, [1], names))
        body = [("count", "v", 0, 9, [("set", "x"), ("leave",), ("drop", "x")]), ("read", "x")]
        self.assertEqual(("done", 5, 0, [True]), ran(body, names=names))
        body = [("count", "v", 0, 3, [("set", "x"), ("next",), ("drop", "x")]), ("read", "x")]
        self.assertEqual(("done", 11, 0, [True]), ran(body, names=names))
        body = [("while", [("set", "x"), ("next",), ("drop", "x")]), ("read", "x")]
        self.assertEqual(("done", 8, 3, [True]), ran(body, [1, 1, 0], names))
        body = [("ever", [("either", [("next",)], [("leave",)]), ("fail", "a")])]
        self.assertEqual(("done", 10, 3, []), ran(body, [0, 0, 1]))
        # The innermost loop around is meant.
        body = [("count", "v", 0, 2, [("ever", [("leave",)]), ("read", "x")])]
        self.assertEqual(("done", 11, 0, [False, False]), ran(body, names=names))

    def test_back_and_fail(self):
        self.assertEqual(("done", 3, 0, []), ran([("ever", [("back",)]), ("fail", "a")]))
        self.assertEqual(("fail abc", 3, 0, []), ran([("ever", [("fail", "abc")]), ("back",)]))

    def test_handlers(self):
        def ended(body, *handlers):
            return ran([("try", body, list(handlers), []), ("read", "x")], names={"x": "plain"})[:2]
        self.assertEqual(("done", 3), ended([("fail", "a")], (["a"], [])))
        self.assertEqual(("done", 3), ended([("fail", "a")], ([], [])))
        self.assertEqual(("done", 3), ended([("fail", "a")], (["b", "a"], [])))
        self.assertEqual(("fail a", 2), ended([("fail", "a")], (["b"], [])))
        self.assertEqual(("fail a", 2), ended([("fail", "a")]))
        self.assertEqual(("done", 2), ended([], ([], [("fail", "b")])))
        # The first one that fits goes on, and a failure in it is not handled again here.
        self.assertEqual(("fail b", 3), ended([("fail", "a")], (["c"], []), ([], [("fail", "b")]), (["a", "b"], [])))
        self.assertEqual(("fail a", 3), ended([("fail", "a")], (["a"], [("fail", "a")]), (["a"], [])))
        self.assertEqual(("done", 3), ended([("fail", "a")], ([], [("back",)])))
        # Only failures are handled.
        self.assertEqual(("done", 2), ended([("back",)], ([], [("fail", "b")])))
        self.assertEqual(("done", 5), ended([("try", [("fail", "a")], [(["b"], [])], [])], (["a"], [("set", "x")])))

    def test_finally(self):
        def ended(body, handlers, last, choices=()):
            whole = [("count", "v", 0, 2, [("try", body, handlers, last)]), ("read", "x")]
            ending, _, _, seen = ran(whole, choices, {"x": "plain"})
            return ending, seen
        mark = [("set", "x")]
        self.assertEqual(("done", [True]), ended([], [], mark))
        self.assertEqual(("done", [True]), ended([("leave",)], [], mark))
        self.assertEqual(("done", [True]), ended([("next",)], [], mark))
        self.assertEqual(("done", []), ended([("back",)], [], mark))
        self.assertEqual(("fail a", []), ended([("fail", "a")], [], mark))
        self.assertEqual(("done", [True]), ended([("fail", "a")], [([], [])], mark))
        self.assertEqual(("fail b", []), ended([("fail", "a")], [([], [("fail", "b")])], mark))
        # A finally block that ends otherwise has its own outcome.
        self.assertEqual(("done", [False]), ended([("back",)], [], [("leave",)]))
        self.assertEqual(("done", [False]), ended([("fail", "a")], [], [("next",)]))
        self.assertEqual(("fail c", []), ended([("fail", "a")], [], [("fail", "c")]))
        self.assertEqual(("fail c", []), ended([], [], [("fail", "c")]))
        self.assertEqual(("done", []), ended([("fail", "a")], [([], [("fail", "a")])], [("back",)]))
        # A failure in it is not handled in the same try.
        self.assertEqual(("fail a", []), ended([("fail", "a")], [(["a"], [])], [("fail", "a")]))
        # Its steps count, also behind a back.
        self.assertEqual(("done", 5, 0, [False]),
                         ran([("try", [("back",)], [], [("read", "x"), ("set", "x"), ("try", [], [], [])])],
                             names={"x": "plain"}))

    def test_calls(self):
        def ended(body, inner):
            program = Program({"main": (None, {"x": "plain"}, body), "f": ("main", {}, inner)})
            return summary(run(program, []))
        self.assertEqual(("done", 3, 0, [True]), ended([("call", "f"), ("read", "x")], [("set", "x")]))
        self.assertEqual(("done", 4, 0, [True]), ended([("call", "f"), ("read", "x")], [("set", "x"), ("back",)]))
        self.assertEqual(("fail a", 2, 0, []), ended([("call", "f"), ("read", "x")], [("fail", "a")]))
        self.assertEqual(("done", 4, 0, [False]),
                         ended([("try", [("call", "f")], [(["a"], [("read", "x")])], [])], [("fail", "a")]))
        self.assertEqual(("done", 4, 0, []), ended([("call", "f")], [("ever", [("back",)])]))

    def test_ends_of_main_within(self):
        # A call of main is a call like others: the run ends with the one with which it began.
        body = [("either", [("call", "main"), ("read", "x")], [("set", "x")])]
        told = run(Program(main_of(body, {"x": "plain"})), [0, 0, 1])
        self.assertEqual(("done", 8, 3, [False, False]), summary(told))


class FrameTest(unittest.TestCase):
    def test_anew_in_each_call(self):
        names = {"x": "plain", "g": "given", "a": (3, ((1, 2),))}
        inner = [("read", "x"), ("read", "g"), ("look", "a", 0), ("look", "a", 1),
                 ("set", "x"), ("drop", "g"), ("put", "a", 0), ("cut", "a", 1)]
        program = Program({"main": (None, {}, [("call", "f"), ("call", "f")]), "f": ("main", names, inner)})
        self.assertEqual([False, True, False, True] * 2, summary(run(program, []))[3])

    def test_itself(self):
        body = [("read", "x"), ("set", "x"), ("either", [("call", "f")], []), ("read", "x")]
        inner = [("drop", "x"), ("read", "y"), ("set", "y"), ("either", [("call", "f")], []), ("read", "y")]
        program = Program({"main": (None, {"x": "plain"}, body), "f": ("main", {"y": "plain"}, inner)})
        told = summary(run(program, [0, 0, 1]))
        self.assertEqual([False, False, False, True, True, False], told[3])

    def test_around(self):
        # g calls f around it: a new frame of f, while g goes on to see the old one, also through a new g.
        functions = {
            "main": (None, {}, [("call", "f")]),
            "f": ("main", {"x": "plain"}, [("read", "x"), ("either", [("set", "x"), ("call", "g")], []), ("read", "x")]),
            "g": ("f", {}, [("read", "x"), ("call", "f"), ("read", "x"), ("drop", "x")]),
        }
        told = summary(run(Program(functions), [0, 1]))
        self.assertEqual([False, True, False, False, True, False], told[3])

    def test_child_of_a_function_around(self):
        # h is a child of main, called deep in f and g; it sees main's x, not one of f.
        functions = {
            "main": (None, {"x": "plain"}, [("call", "f"), ("read", "x")]),
            "f": ("main", {"x": "given"}, [("call", "g"), ("read", "x")]),
            "g": ("f", {}, [("call", "h"), ("read", "x"), ("drop", "x")]),
            "h": ("main", {}, [("read", "x"), ("set", "x")]),
        }
        told = run(Program(functions), [])
        self.assertEqual([("h", False), ("g", True), ("f", False), ("main", True)],
                         [(spot[0], is_set) for spot, is_set in told.events])

    def test_sibling_gets_the_same_frame(self):
        functions = {
            "main": (None, {}, [("call", "f"), ("call", "f")]),
            "f": ("main", {"x": "plain"}, [("call", "g"), ("read", "x")]),
            "g": ("f", {}, [("call", "h")]),
            "h": ("f", {}, [("read", "x"), ("set", "x")]),
        }
        self.assertEqual([False, True, False, True], summary(run(Program(functions), []))[3])

    def test_without_parent(self):
        functions = {
            "main": (None, {"x": "plain"}, [("set", "x"), ("call", "f"), ("read", "x")]),
            "f": (None, {"x": "plain"}, [("read", "x"), ("either", [("call", "main")], []), ("read", "x")]),
        }
        self.assertEqual([False, False, False, True, False, True], summary(run(Program(functions), [0, 1]))[3])

    def test_hidden(self):
        functions = {
            "main": (None, {"x": "plain", "y": "plain"}, [("call", "f"), ("read", "x"), ("read", "y")]),
            "f": ("main", {"x": "plain"}, [("set", "x"), ("set", "y"), ("call", "g"), ("read", "x")]),
            "g": ("f", {"y": (2, ())}, [("put", "y", 1), ("drop", "x"), ("look", "y", 1), ("look", "y", 0)]),
        }
        self.assertEqual([True, False, False, False, True], summary(run(Program(functions), []))[3])

    def test_counters_in_their_block_alone(self):
        functions = {
            "main": (None, {"a": (9, ())}, [("count", "v", 0, 2, [("call", "f"), ("look", "a", ("v", 0))]),
                                            ("count", "v", 5, 6, [("look", "a", ("v", 0))])]),
            "f": ("main", {}, [("count", "v", 1, 3, [("put", "a", ("v", 0))])]),
        }
        self.assertEqual([False, True, False], summary(run(Program(functions), []))[3])
        functions["f"] = ("main", {"v": "given"}, [("read", "v")])
        self.assertEqual([True, False, True, False, False], summary(run(Program(functions), []))[3])


class DepthTest(unittest.TestCase):
    def test_deep_calls(self):
        program = Program(main_of([("call", "main")]))
        self.assertEqual(("most", 10000, 0, []), summary(run(program, [], most=10000)))
        functions = {
            "main": (None, {"x": "plain"}, [("call", "f"), ("read", "x")]),
            "f": ("main", {}, [("either", [("try", [("call", "f")], [], [("set", "x")])], [("fail", "a")])]),
        }
        told = run(Program(functions), [0] * 2400 + [1], most=10000)
        self.assertEqual(("fail a", 1 + 3 * 2400 + 2 + 2400, 2401), (told.ending, told.steps, told.used))
        functions["f"] = ("main", {}, [("either", [("call", "f")], [])])
        told = run(Program(functions), [0] * 4998 + [1], most=10000)
        self.assertEqual(("done", 9999, 4999, [False]), summary(told))

    def test_deep_calls_around(self):
        functions = {
            "main": (None, {}, [("call", "f")]),
            "f": ("main", {"x": "plain"}, [("set", "x"), ("call", "g")]),
            "g": ("f", {}, [("read", "x"), ("call", "f")]),
        }
        told = run(Program(functions), [], most=9999)
        self.assertEqual(("most", 9999, 0, [True] * 2499), summary(told))


class ErrorTest(unittest.TestCase):
    def setUp(self):
        self.program = Program(main_of([("either", [], []), ("while", [("either", [], [], [])])]))

    def test_most(self):
        for value in [value for value in any_values() if value.__class__ is not int] + [-1, 10001, 10 ** 399, -10 ** 399]:
            self.assertEqual(("OutOfRange", {"value": value}), failure(run, self.program, [7], most=value))
            with self.assertRaises(IndexError):
                run(self.program, [], most=value)
        for value in (0, 1, 9999, 10000):
            self.assertEqual(None, failure(run, self.program, [], most=value))
        self.assertEqual(("most", 0), (run(self.program, [], most=0).ending, run(self.program, [], most=0).steps))
        self.assertEqual(1000, run(Program(main_of([("ever", [])])), []).steps)

    def test_choices(self):
        for value in [value for value in any_values() if value.__class__ is not int] + [2, -1, 10 ** 399]:
            self.assertEqual(("InvalidChoice", {"index": 0}), failure(run, self.program, [value]))
            self.assertEqual(("InvalidChoice", {"index": 1}), failure(run, self.program, (0, value, None)))
            self.assertEqual(None, failure(run, self.program, [0, 0, value]))
        self.assertEqual(("InvalidChoice", {"index": 2}), failure(run, self.program, [1, 1, 3]))
        self.assertEqual(None, failure(run, self.program, [1, 1, 2]))
        self.assertEqual(("InvalidChoice", {"index": 1}), failure(run, self.program, [1, 2]))
        with self.assertRaises(ValueError):
            run(self.program, [True])

    def test_choices_that_are_not_needed(self):
        told = run(self.program, [0, 0, "x", None])
        self.assertEqual(("done", 2), (told.ending, told.used))
        self.assertEqual("most", run(self.program, [None], most=0).ending)
        self.assertEqual("most", run(self.program, [0, 1, None], most=3).ending)

    def test_arguments(self):
        self.assertEqual(run(self.program, [0, 0]), run(choices=(0, 0), program=self.program, most=1000))
        with self.assertRaises(TypeError):
            run(self.program, [], 5)
        choices = [0, 1, 2]
        run(self.program, choices)
        self.assertEqual([0, 1, 2], choices)


class EqualTest(unittest.TestCase):
    def test_equal(self):
        program = Program(sample())
        self.assertEqual(run(program, [1, 0, 1]), run(program, (1, 0, 1, 5)))
        self.assertFalse(run(program, [1, 0, 1]) != run(program, [1, 0, 1]))
        body = [("either", [("read", "x")], [("set", "x")]), ("either", [], [])]
        one = Program(main_of(body, {"x": "plain"}))
        other = Program(main_of(body, {"x": "given"}))
        third = Program(main_of([*body, ("fail", "a")], {"x": "plain"}))
        told = run(one, [0, 0])
        # Each of the four parts alone makes a difference.
        self.assertNotEqual(told, run(other, [0, 0]))
        self.assertEqual(("most", told.steps), (run(third, [0, 0], most=3).ending, run(third, [0, 0], most=3).steps))
        self.assertNotEqual(told, run(third, [0, 0], most=3))
        empty = [run(Program(main_of(body)), choices) for body, choices in (
            ([], []), ([("try", [], [], [])], []), ([("either", [], [])], [0]))]
        self.assertEqual([((), "done", 0, 0), ((), "done", 1, 0), ((), "done", 1, 1)],
                         [(each.events, each.ending, each.steps, each.used) for each in empty])
        self.assertEqual([[True, False, False], [False, True, False], [False, False, True]],
                         [[first == second for first in empty] for second in empty])

    def test_other_kinds(self):
        told = run(Program(sample()), [])
        for value in [*any_values(), ((), "open", 1, 0), Program(sample()), object()]:
            self.assertFalse(told == value)
            self.assertFalse(value == told)
            self.assertTrue(told != value)
        self.assertIsInstance(told, Run)
        self.assertIsInstance(told.events, tuple)

    def test_properties_cannot_be_set(self):
        told = run(Program(sample()), [])
        for name in ("events", "ending", "steps", "used"):
            with self.assertRaises(AttributeError):
                setattr(told, name, 1)


class RandomTest(unittest.TestCase):
    def test_like_the_second_reading(self):
        for seed in range(400):
            chance = random.Random(seed)
            functions = SmallMaker(chance, chance.choice([6, 12, 20, 30]), 5).functions()
            program = Program(functions)
            for _ in range(5):
                choices = [chance.choice([0, 1]) for _ in range(chance.choice([0, 3, 10, 40]))]
                most = chance.choice([0, 1, 7, 40, 200])
                told = run(program, choices, most=most)
                self.assertEqual(PlainRun(functions, choices, most).told(),
                                 (told.events, told.ending, told.steps, told.used), seed)


if __name__ == "__main__":
    unittest.main()
