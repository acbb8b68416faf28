"""Ways: [16] and [24] of the document."""

import copy
import inspect
import itertools
import random
import unittest

from surelyset import ways as module
from surelyset.cells import read_ranges
from surelyset.programs import Program
from surelyset.states import states
from surelyset.ways import fault_way, least_steps, led, way
from tests.makers import SmallMaker
from tests.stepping import Stepper, Unfolder, key_in
from tests.support import any_values, broken, failure, main_of, sample

SIZE = 10 ** 30
MOST = 10 ** 300
P = Program(sample())
S, U = "set", "unset"
FOUND = ((("f", (("loop", ()), ("either", 1, ()))),), ((("either", 1, (("call", 0),)),),))
WORDS = ("main", *"bcdefghijkl")


def seen_names(program, function):
    """The names and cells that a function sees, of short arrays."""
    found = []
    for word in ("a", "b", "x", "y", "z"):
        try:
            own = program[program.owner(function, word)][1][word]
        except KeyError:
            continue
        found += [word] if isinstance(own, str) else [(word, cell) for cell in range(own[0])]
    return found


def drawn(chance):
    """A small program at random, one of its spots, and names that are seen there."""
    statements = chance.choice([6, 10, 15])
    program = Program(SmallMaker(chance, statements=statements, functions=2, names=2, length=3).functions())
    spot = chance.choice(program.spots)
    seen = seen_names(program, spot[0])
    return program, spot, [chance.choice(seen) for _ in range(chance.randrange(4))] if seen else []


class ExampleTest(unittest.TestCase):
    def test_example(self):
        self.assertEqual((("unset",), 4, {}), led(P, ("main", (1,)), FOUND, "x"))
        self.assertEqual([4, 2], [least_steps(P, ("main", (1,)), (state,), "x") for state in (U, S)])
        self.assertEqual(FOUND, way(P, ("main", (1,)), (U,), "x"))
        self.assertEqual(((), ((("either", 0, ()),),)), way(P, ("main", (1,)), (S,), "x"))

    def test_no_names(self):
        self.assertEqual(((), ((),)), way(P, ("main", (0,)), ()))
        self.assertEqual(((), 0, {}), led(P, ("main", (0,)), ((), ((),))))
        self.assertEqual([1, 1, 2], [least_steps(P, spot, ()) for spot in (("main", (0, 0, 0)), ("main", (0, 1, 0)),
                                                                          ("f", (0,)))])

    def test_one_name_several_times(self):
        self.assertEqual(2, least_steps(P, ("main", (1,)), (S, S, S), "x", "y", "x"))
        self.assertIsNone(way(P, ("main", (1,)), (S, S, U), "x", "y", "x"))
        self.assertIsNone(least_steps(P, ("main", (1,)), (U, S), "x", "x"))
        self.assertEqual(((U, S, U), 4, {}), led(P, ("main", (1,)), FOUND, "x", "y", "x"))

    def test_hidden_names(self):
        functions = {"main": (None, {"x": "plain"}, [("call", "f")]),
                     "f": ("main", {"x": "given"}, [("either", [("drop", "x")], []), ("read", "x")])}
        program = Program(functions)
        self.assertEqual(((), ((("enter",),), (("either", 0, ()),))), way(program, ("f", (1,)), (U,), "x"))
        self.assertEqual(((), ((("enter",),), (("either", 1, ()),))), way(program, ("f", (1,)), (S,), "x"))
        self.assertIsNone(way(program, ("main", (1,)), (S,), "x"))


class StepTest(unittest.TestCase):
    def steps(self, body, spot, names=None, more=None):
        program = Program({**main_of(body, names), **(more or {})})
        told = least_steps(program, spot, ())
        if told is not None:
            self.assertEqual(((), told), led(program, spot, way(program, spot, ()))[:2])
        return told

    def test_simple_statements(self):
        body = [("set", "x"), ("read", "x"), ("drop", "x"), ("look", "a", 0), ("fail", "w"), ("set", "x")]
        told = [self.steps(body, ("main", (at,)), {"x": "plain", "a": (1, ())}) for at in range(7)]
        self.assertEqual([0, 1, 2, 3, 4, None, None], told)

    def test_loops(self):
        for many in (0, 1, 2, 7, SIZE - 3):
            body = [("count", "v", 3, 3 + many, [("either", [], [])])]
            self.assertEqual(1 + 2 * many, self.steps(body, ("main", (1,))))
            self.assertEqual(None if many == 0 else 2, self.steps(body, ("main", (0, 0, 0))))
            self.assertEqual(None if many == 0 else 3, self.steps(body, ("main", (0, 0, 1))))
        self.assertIsNone(self.steps([("count", "v", -1, SIZE - 1, [("back",)])], ("main", (1,))))
        self.assertEqual(1 + 4 * SIZE, self.steps([("count", "v", -SIZE, SIZE, [("next",)])], ("main", (1,))))
        self.assertEqual(1, self.steps([("while", [("either", [], [])])], ("main", (1,))))
        self.assertIsNone(self.steps([("ever", [("either", [], [])])], ("main", (1,))))
        self.assertEqual(4, self.steps([("ever", [("either", [], [("leave",)])])], ("main", (1,))))
        self.assertEqual(3, self.steps([("ever", [("either", [], [])])], ("main", (0, 0, 1))))
        self.assertEqual(1, self.steps([("count", "v", 5, 2, [("back",)])], ("main", (1,))))

    def test_loops_within_one_another(self):
        inner = [("count", "w", 0, SIZE, [("either", [("set", "x")], [])])]
        body = [("count", "v", 0, SIZE, inner)]
        self.assertEqual(1 + SIZE * (2 + 2 * SIZE), self.steps(body, ("main", (1,)), {"x": "plain"}))
        program = Program(main_of(body, {"x": "plain"}))
        told = way(program, ("main", (1,)), (S,), "x")
        self.assertEqual(((S,), 2 + SIZE * (2 + 2 * SIZE), {}), led(program, ("main", (1,)), told, "x"))
        spot = ("main", (0, 0, 0, 0, 0))
        value = ((), ((("loop", ((1, (("loop", ((1, ()),)),)),)),),))
        self.assertEqual(value, way(program, spot, (U,), "x"))
        self.assertEqual(((U,), 4, {"v": 0, "w": 0}), led(program, spot, value, "x"))

    def test_trys(self):
        body = [("try", [("either", [("fail", "w")], [("fail", "u")], [])], [(["u"], [("read", "x")]), ([], [])],
                 [("set", "x")]), ("read", "x")]
        names = {"x": "plain"}
        paths = {(0,): 0, (0, 0, 0): 1, (0, 0, 1): 2, (0, 0, 0, 0, 0): 2, (0, 1, 0): 3, (0, 1, 1): 4, (0, 2, 0): 3,
                 (0, 3, 0): 2, (0, 3, 1): 3, (1,): 3, (2,): 4, (0, 0, 0, 0, 1): None}
        for path, want in paths.items():
            self.assertEqual(want, self.steps(body, ("main", path), names), path)
        program = Program(main_of(body, names))
        self.assertEqual(((), ((("try", (("either", 1, ()),), (), None),),)), way(program, ("main", (0, 1, 1)), ()))
        self.assertEqual(((), ((("try", (("either", 2, ()),), None, ()),),)), way(program, ("main", (0, 3, 1)), ()))

    def test_calls(self):
        more = {"f": ("main", {}, [("either", [("back",)], [("call", "f")]), ("fail", "w")])}
        self.assertEqual(3, self.steps([("call", "f")], ("main", (1,)), None, more))
        self.assertEqual(5, self.steps([("call", "f")], ("f", (1,)), None, more))
        self.assertEqual(1, self.steps([("call", "f")], ("f", (0,)), None, more))

    def test_doubling(self):
        for times, steps in ((2, 4094), (3, 3 * (3 ** 11 - 1) // 2)):
            functions = {word: (None, {}, [("call", after)] * times) for word, after in zip(WORDS, WORDS[1:])}
            program = Program({**functions, "l": (None, {}, [])})
            told = way(program, ("main", (times,)), ())
            self.assertEqual(((), steps, {}), led(program, ("main", (times,)), told))
            self.assertEqual(steps, least_steps(program, ("main", (times,)), ()))
            self.assertLess(len(str(told)), 2000)

    def test_most_steps(self):
        for deep in (1, 2):
            functions = {}
            for word, after in zip(WORDS, (*WORDS[1:], None)):
                body = [("call", after)] if after else [("either", [("set", "x")], [])]
                for counter in ("v", "w")[:deep]:
                    body = [("count", counter, 0, SIZE, body)]
                functions[word] = (None if word == "main" else "main", {"x": "plain"} if word == "main" else {}, body)
            program = Program(functions)
            for state in (S, U):
                told = way(program, ("main", (1,)), (state,), "x")
                self.assertEqual(((state,), MOST, {}), led(program, ("main", (1,)), told, "x"))
                self.assertEqual(MOST, least_steps(program, ("main", (1,)), (state,), "x"))
        # c calls d .. l: 9 functions within one another take less steps than are not told.
        self.assertLess(least_steps(program, ("i", (1,)), ()), MOST)

    def test_just_below_most_steps(self):
        """10 ** 300 exactly, one less and one more."""
        rounds = 10 ** 30 // 2 - 1
        functions = {"main": (None, {}, [("call", "b")])}
        # Each function takes k -> 10 ** 30 * (k + 2) + 1 steps.
        steps = 0
        for word, after in zip(WORDS[1:11], WORDS[2:12]):
            functions[word] = (None, {}, [("count", "v", 0, SIZE, [("call", after)])])
        functions["l"] = (None, {}, [])
        for _ in range(10):
            steps = 1 + SIZE * (steps + 2)
        self.assertGreater(steps, MOST)
        self.assertEqual(MOST, least_steps(Program(functions), ("main", (1,)), ()))
        functions["b"] = (None, {}, [("count", "v", 0, rounds, [("call", "c")])])
        before = (steps - 1) // SIZE
        want = 2 + rounds * before
        self.assertLess(want, MOST)
        self.assertEqual(want, least_steps(Program(functions), ("main", (1,)), ()))

    def test_ways_through_functions_that_call_themselves(self):
        functions = {"main": (None, {"x": "plain"}, [("call", "f"), ("read", "x")]),
                     "f": ("main", {}, [("either", [("set", "x"), ("fail", "u")],
                                         [("try", [("call", "f")], [(["u"], [("back",)])], [("read", "x")])])])}
        program = Program(functions)
        told = way(program, ("main", (1,)), (S,), "x")
        self.assertEqual(((S,), 9, {}), led(program, ("main", (1,)), told, "x"))
        self.assertEqual(9, least_steps(program, ("main", (1,)), (S,), "x"))
        self.assertIsNone(way(program, ("main", (1,)), (U,), "x"))
        self.assertEqual((("f", (("either", 0, ()),)), "f"), (told[0][0], told[0][1][0]))


class CellTest(unittest.TestCase):
    def setUp(self):
        self.program = Program(main_of([("count", "v", 1, SIZE, [
            ("look", "a", ("v", -1)), ("put", "a", ("v", 0)), ("either", [], [("leave",)])])], {"a": (SIZE, ())}))
        self.behind = ("main", (1,))

    def test_great_counts(self):
        for cell, state, steps in ((0, U, 6), (1, S, 6), (2, S, 10), (2, U, 6), (SIZE - 1, U, 6),
                                   (SIZE - 1, S, 1 + 4 * (SIZE - 1)), (5 * 10 ** 29, S, 2 + 4 * 5 * 10 ** 29)):
            told = way(self.program, self.behind, (state,), ("a", cell))
            self.assertEqual(((state,), steps, {}), led(self.program, self.behind, told, ("a", cell)))
            self.assertEqual(steps, least_steps(self.program, self.behind, (state,), ("a", cell)))
        self.assertIsNone(way(self.program, self.behind, (S,), ("a", 0)))
        self.assertIsNone(way(self.program, self.behind, (U,), ("a", 1)))

    def test_counters(self):
        names = [("a", 7), ("a", 8), ("a", 10 ** 20)]
        spot = ("main", (0, 0, 1))
        told = way(self.program, spot, (S, U, U), *names)
        self.assertEqual(((S, U, U), 2 + 4 * 7 + 1, {"v": 8}), led(self.program, spot, told, *names))
        told = way(self.program, spot, (S, S, S), *names)
        self.assertEqual(((S, S, S), 2 + 4 * 10 ** 20 + 1, {"v": 10 ** 20 + 1}), led(self.program, spot, told, *names))

    def test_counters_of_one_function(self):
        functions = {"main": (None, {}, [("count", "w", 5, 9, [("count", "v", -2, 9, [("call", "f")])])]),
                     "f": (None, {}, [("count", "v", 3, 4, [("read", "x")])])}
        functions["f"] = (None, {"x": "plain"}, functions["f"][2])
        program = Program(functions)
        rows = ((("loop", ((2, (("loop", ((11, (("call", 0),)),)),)), (1, (("loop", ((4, (("call", 0),)),
                                                                                     (1, (("enter",),)))),)))),),
                (("loop", ((1, ()),)),))
        plans = (("f", (("loop", ((1, ()),)),)),)
        self.assertEqual(((U,), 141, {"v": 3}), led(program, ("f", (0, 0, 0)), (plans, rows), "x"))
        inner = ((("loop", ((2, (("loop", ((11, (("call", 0),)),)),)), (1, (("loop", ((4, (("call", 0),)),
                                                                                     (1, ()))),)))),),)
        self.assertEqual(((), 138, {"v": 2, "w": 7}), led(program, ("main", (0, 0, 0, 0, 0)), (plans, inner)))
        self.assertEqual(["v", "w"], list(led(program, ("main", (0, 0, 0, 0, 0)), (plans, inner))[2]))

    def test_fault_ways(self):
        spot = ("main", (0, 0, 0))
        told = fault_way(self.program, spot, 0)
        self.assertEqual(((U,), 2, {"v": 1}), led(self.program, spot, told, ("a", 0)))
        for cell in (1, 2, 10 ** 29, SIZE - 2, SIZE - 1):
            self.assertIsNone(fault_way(self.program, spot, cell))
        body = [("count", "v", 10, SIZE - 10, [("either", [], [("cut", "a", ("v", 5))]), ("look", "a", ("v", 5))])]
        program = Program(main_of(body, {"a": (SIZE, ((0, SIZE),))}))
        for cell in (15, 16, 10 ** 25, SIZE - 6):
            told = fault_way(program, ("main", (0, 0, 1)), cell)
            self.assertEqual(((U,), 3 * (cell - 15) + 4, {"v": cell - 5}),
                             led(program, ("main", (0, 0, 1)), told, ("a", cell)))
        for cell in (0, 14, SIZE - 5, SIZE - 1):
            self.assertIsNone(fault_way(program, ("main", (0, 0, 1)), cell))

    def test_fault_ways_by_integers(self):
        program = Program(main_of([("either", [("put", "a", 1)], [], []), ("look", "a", 1), ("read", "x")],
                                  {"a": (3, ()), "x": "plain"}))
        self.assertIsNone(fault_way(program, ("main", (1,)), 0))
        self.assertIsNone(fault_way(program, ("main", (1,)), cell=2))
        self.assertEqual(((U,), 1, {}), led(program, ("main", (1,)), fault_way(program, ("main", (1,)), 1), ("a", 1)))
        self.assertEqual(((U,), 2, {}), led(program, ("main", (2,)), fault_way(program, ("main", (2,))), "x"))
        self.assertEqual(FOUND, fault_way(P, ("main", (1,))))
        self.assertIsNone(fault_way(Program(main_of([("set", "x"), ("read", "x")], {"x": "plain"})), ("main", (1,))))
        self.assertIsNone(fault_way(Program(main_of([("back",), ("read", "x")], {"x": "plain"})), ("main", (1,))))

    def test_fault_ways_at_random(self):
        compared = 0
        for seed in range(250):
            chance = random.Random(seed)
            program, _, _ = drawn(chance)
            for spot in program.spots:
                statement = program.statement(spot)
                if statement is not None and statement[0] in ("read", "look"):
                    compared += self.compare(program, spot, statement)
        self.assertGreater(compared, 60)

    def compare(self, program, spot, statement):
        if statement[0] == "read":
            self.assertEqual(way(program, spot, (U,), statement[1]), fault_way(program, spot))
            return 0
        owner = program.owner(spot[0], statement[1])
        cells, found = program[owner][1][statement[1]][0], 0
        unset = {cell: told == "fault" for first, behind, told in read_ranges(program, spot)
                 for cell in range(first, behind)}
        for cell in range(cells):
            told = fault_way(program, spot, cell)
            self.assertEqual(unset.get(cell, False), told is not None)
            if told is not None:
                stepper = Stepper(program.functions, [(owner, (statement[1], cell))], most_nodes=3000)
                state, steps, counters = led(program, spot, told, (statement[1], cell))
                self.assertEqual((U,), state)
                want = stepper.looks.get((spot, cell, (U,)))
                if want is None:
                    self.assertTrue(not stepper.is_whole and steps >= stepper.steps)
                else:
                    self.assertEqual(want, steps)
                    found += 1
                read = statement[2]
                self.assertEqual(cell, read if isinstance(read, int) else counters[read[0]] + read[1])
        return found


class RandomTest(unittest.TestCase):
    def test_least_ways(self):
        """All runs step by step tell just the ways that way tells, and led and the second reading follow them."""
        compared = 0
        for seed in range(400):
            program, spot, names = drawn(random.Random(seed))
            places = [key_in(program.functions, spot[0], name) for name in names]
            stepper = Stepper(program.functions, places, most_steps=40, most_nodes=4000)
            reached = states(program, spot, *names)
            for wanted in itertools.product((S, U), repeat=len(names)):
                told = way(program, spot, wanted, *names)
                steps = least_steps(program, spot, wanted, *names)
                self.assertEqual([wanted in reached] * 2, [told is not None, steps is not None])
                want = stepper.found.get((spot, wanted))
                if want is not None:
                    compared += 1
                    self.assertEqual(want, steps, (seed, spot, wanted, names))
                elif steps is not None:
                    self.assertTrue(not stepper.is_whole and steps >= stepper.steps, (seed, spot, wanted, names))
                if told is not None:
                    self.follow(program, spot, told, names, (wanted, steps))
        self.assertGreater(compared, 250)

    def follow(self, program, spot, told, names, want):
        found = led(program, spot, told, *names)
        self.assertEqual(want, found[:2])
        try:
            self.assertEqual(Unfolder(program.functions, spot, names).led(told), found)
        except TimeoutError:
            pass

    def test_bent_ways(self):
        """What is bent is told as the second reading tells it, which goes through all rounds and plans."""
        worths = [0, 1, 2, 3, -1, True, False, None, (), [], ("enter",), ("call", 0), ("call", 1), ("either", 0, ()),
                  ("either", 1, ()), ("loop", ()), ("loop", ((1, ()),)), (1, ()), (2, ()), ("try", (), None, None),
                  ("try", (), (), None), ("main", ()), "loop", S]
        right = compared = 0
        for seed in range(500):
            chance = random.Random(seed)
            program, spot, names = drawn(chance)
            for wanted in states(program, spot, *names):
                told = way(program, spot, wanted, *names)
                for _ in range(10):
                    bent = self.bent(chance, told, chance.choice([*worths, told[0], told[1]]))
                    try:
                        want = Unfolder(program.functions, spot, names).led(bent)
                    except TimeoutError:
                        continue
                    self.assertEqual(want, led(program, spot, bent, *names), (seed, spot, bent, names))
                    compared += 1
                    right += want is not None
        self.assertGreater(compared, 4000)
        self.assertGreater(right, 300)

    def bent(self, chance, value, worth):
        """The value with one part anywhere exchanged, or left out, doubled, put in, or turned into a list."""
        if value.__class__ is not tuple or not value:
            return worth
        if chance.random() < 0.75:
            at = chance.randrange(len(value))
            return (*value[:at], self.bent(chance, value[at], worth), *value[at + 1:])
        at = chance.randrange(len(value))
        kind = chance.randrange(6)
        if kind == 0:
            return (*value[:at], *value[at + 1:])
        if kind == 1:
            return (*value[:at], value[at], *value[at:])
        if kind == 2:
            return (*value[:at], worth, *value[at:])
        if kind == 3:
            return list(value)
        if kind == 4:
            return (*value[:at], *value[at:][::-1])
        return broken(chance, value, worth)

    def test_other_spots(self):
        """A way to one spot is none to other ones."""
        for seed in range(60):
            program, spot, names = drawn(random.Random(seed))
            told = way(program, spot, (), *[])
            if told is not None:
                for other in program.spots:
                    want = Unfolder(program.functions, other, []).led(told)
                    self.assertEqual(want, led(program, other, told))


class LedTest(unittest.TestCase):
    def none(self, program, spot, *values):
        for value in values:
            self.assertIsNone(led(program, spot, value), value)

    def test_any_values(self):
        for value in any_values():
            self.none(P, ("main", (1,)), value, (value, FOUND[1]), (FOUND[0], value), (FOUND[0], (value,)),
                      ((value,), FOUND[1]), (FOUND[0], ((value,),)), (FOUND[0], ((("either", 1, value),),)),
                      ((("f", value),), FOUND[1]), (((value, (*FOUND[0][0][1], 1)),), FOUND[1]),
                      ((("f", (("loop", value or None), ("either", 1, ()))),), FOUND[1]),
                      ((("f", (("loop", (value,)), ("either", 1, ()))),), FOUND[1]))
            for at, row in ((1, (("either", value, (("call", 0),)),)), (0, (("either", 1, (("call", value),)),))):
                is_right = value.__class__ is int and value == at
                self.assertEqual(((), 4, {}) if is_right else None, led(P, ("main", (1,)), (FOUND[0], (row,))))

    def test_plans_that_are_not_used(self):
        right = FOUND[0][0]
        self.assertEqual(((), 4, {}), led(P, ("main", (1,)), ((right, right, ("main", (("either", 0, ()),))), FOUND[1])))
        more = (right, ("main", (("either", 1, (("call", 0),)),)))
        self.assertEqual(((), 4, {}), led(P, ("main", (1,)), (more, FOUND[1])))
        for wrong in (("f", ()), ("f", (("loop", ()),)), ("g", ()), ("f", (("loop", ()), ("either", 2, ()))),
                      ("main", (("either", 1, (("call", 1),)),)), ("main", (("either", 1, (("call", 2),)),)),
                      ("main", (("either", 1, (("enter",),)),)), ("main", ()), ["f", right[1]], (*right, 1)):
            self.none(P, ("main", (1,)), ((right, wrong), FOUND[1]), ((right, wrong, right), FOUND[1]))

    def test_plans_that_name_later_ones(self):
        functions = {"main": (None, {}, [("call", "f")]), "f": (None, {}, [("call", "g")]), "g": (None, {}, [])}
        program = Program(functions)
        rows = ((("call", 1),),)
        self.assertEqual(((), 2, {}), led(program, ("main", (1,)), ((("g", ()), ("f", (("call", 0),))), rows)))
        self.none(program, ("main", (1,)), ((("f", (("call", 1),)), ("g", ())), ((("call", 0),),)),
                  ((("g", ()), ("f", (("call", 1),))), rows), ((("g", ()), ("f", (("call", -1),))), rows),
                  ((("g", ()), ("f", (("call", 0),))), ((("call", 0),),)), ((("g", ()), ("f", (("call", False),))), rows))

    def test_whole_runs_alone(self):
        """Ways end at an enter and at the spot, plans at neither."""
        rows = ((("either", 1, (("enter",),)),), (("loop", ()),))
        self.assertEqual(((), 3, {}), led(P, ("f", (1,)), ((), rows)))
        self.none(P, ("f", (1,)), ((), rows[:1]), ((), rows[1:]), ((), ()), ((), (*rows, rows[1])), ((), rows[::-1]),
                  ((), ((("either", 1, (("enter",), ("enter",))),), rows[1])),
                  ((), ((("either", 1, (("enter",),)), ("enter",)), rows[1])),
                  ((), ((("either", 1, (("enter",),)), ("call", 0)), rows[1])), ((), [rows[0], rows[1]]),
                  ((), (rows[0], (("loop", ()), ("either", 0, ())))))

    def test_counts(self):
        for many in (0, 1, 2, SIZE):
            program = Program(main_of([("count", "v", 0, many, [("either", [("next",)], [("leave",)], [("fail", "w")])])]))
            row, leaving, failing = ((("either", k, ()),) for k in range(3))
            want = ((), 1 + 3 * many, {})
            pieces = {many: ((many, row),), 2: ((1, row), (1, row))}
            self.assertEqual(want, led(program, ("main", (1,)), ((), ((("loop", pieces[many] if many else ()),),))))
            for wrong in (((many + 1, row),), ((many - 1, row),), ((many, row), (1, row)), ((2, leaving),),
                          ((many, row), (1, leaving)), ((1, leaving), (1, row)), ((1, failing),), ((0, row),),
                          ((True, row),), ((-1, row),), ((10 ** 399, row),), [(many, row)], ([many, row],),
                          ((many, row, row),), ((many,),)):
                if wrong != ((1, row),) or many != 1:
                    self.none(program, ("main", (1,)), ((), ((("loop", wrong),),)))
            if many:
                self.assertEqual(((), 4, {}), led(program, ("main", (1,)), ((), ((("loop", ((1, leaving),)),),))))
                told = ((many - 1, row), (1, leaving)) if many > 1 else ((1, leaving),)
                self.assertEqual(want, led(program, ("main", (1,)), ((), ((("loop", told),),))))
                self.none(program, ("main", (0, 0, 0)), ((), ((("loop", ((many, row), (1, ()))),),)))

    def test_an_ever_that_is_done(self):
        program = Program(main_of([("ever", [("either", [], [("leave",)])])]))
        row, leaving = ((("either", k, ()),) for k in range(2))
        value = ((), ((("loop", ((4, row), (1, leaving))),),))
        self.assertEqual(((), 1 + 4 * 2 + 3, {}), led(program, ("main", (1,)), value))
        self.none(program, ("main", (1,)), *[((), ((("loop", pieces),),)) for pieces in (
            (), ((1, row),), ((5, row),), ((1, leaving), (1, row)), ((2, leaving),))])

    def test_last_pieces(self):
        program = Program(main_of([("while", [("either", [], []), ("read", "x")])], {"x": "plain"}))
        row, spot = (("either", 0, ()),), ("main", (0, 0, 1))
        for before in ((), ((1, row),), ((7, row), (2, (("either", 1, ()),)))):
            steps = 1 + 3 * sum(times for times, _ in before) + 2
            self.assertEqual(((), steps, {}), led(program, spot, ((), ((("loop", (*before, (1, row))),),))))
            self.none(program, spot, ((), ((("loop", (*before, (2, row))),),)), ((), ((("loop", (*before, (1, ()))),),)))
        self.none(program, spot, ((), ((("loop", ()),),)))

    def test_great_ways(self):
        """Many pieces and many plans are followed."""
        program = Program({"main": (None, {}, [("while", [("call", "f")])]),
                           "f": (None, {}, [("either", [("call", "f"), ("call", "f")], [])])})
        plans = [("f", (("either", 1, ()),))]
        for at in range(1200):
            plans.append(("f", (("either", 0, (("call", at), ("call", at))),)))
        rows = ((("loop", tuple((1, (("call", at),)) for at in range(500))),),)
        want = [1]
        for _ in range(1200):
            want.append(3 + 2 * want[-1])
        steps = 1 + sum(2 + each for each in want[:500])
        self.assertEqual(((), steps, {}), led(program, ("main", (1,)), (tuple(plans), rows)))
        last = ((("loop", ((1, (("call", 1200),)),)),),)
        self.assertEqual(((), MOST, {}), led(program, ("main", (1,)), (tuple(plans), last)))


class ErrorTest(unittest.TestCase):
    def calls(self, program, spot, wanted, *names):
        return [failure(way, program, spot, wanted, *names), failure(least_steps, program, spot, wanted, *names)]

    def test_any_spots(self):
        for value in any_values():
            if value != ("main", (0,)):
                want = ("UnknownSpot", {"value": value})
                self.assertEqual([want] * 2, self.calls(P, value, value, value, *"abc"))
                self.assertEqual([want] * 2, [failure(led, P, value, 1), failure(fault_way, P, value, value)])

    def test_any_names(self):
        for value in any_values():
            if value != "x":
                want = ("UnknownName", {"value": value})
                self.assertEqual([want] * 2, self.calls(P, ("main", (0,)), 1, "x", value, "nix"))
                self.assertEqual(want, failure(led, P, ("main", (0,)), FOUND, "x", value))
        self.assertEqual([("TooMany", {"limit": 3})] * 2, self.calls(P, ("main", (0,)), 1, *"xxnx"))
        self.assertEqual(("TooMany", {"limit": 3}), failure(led, P, ("main", (0,)), 1, *"xxnx"))

    def test_any_states(self):
        for value in any_values():
            want = ("InvalidStates", {"value": value})
            self.assertEqual([want if value != () else None] * 2, self.calls(P, ("main", (0,)), value))
            self.assertEqual([want] * 2, self.calls(P, ("main", (0,)), value, "x"))
            self.assertEqual([("InvalidStates", {"value": (value,)})] * 2, self.calls(P, ("main", (0,)), (value,), "x"))
        for value in ([S], (S, S), "set", ("keep",), ("none",), (S, [U])):
            self.assertEqual([("InvalidStates", {"value": value})] * 2, self.calls(P, ("main", (0,)), value, "x"))

    def test_spots_of_other_statements(self):
        program = Program(main_of([("set", "x"), ("while", [("read", "x")])], {"x": "plain"}))
        for spot in program.spots:
            if spot[1] != (1, 0, 0):
                self.assertEqual(("UnknownSpot", {"value": spot}), failure(fault_way, program, spot, 7))

    def test_any_cells(self):
        program = Program(main_of([("look", "a", 1), ("read", "x")], {"a": (3, ()), "x": "plain"}))
        for value in [*any_values(), 3, ("v", 0), 1.5]:
            want = ("OutOfRange", {"value": value})
            self.assertEqual(None if value.__class__ is int and value in (0, 1) else want,
                             failure(fault_way, program, ("main", (0,)), value))
            self.assertEqual(None if value is None else want, failure(fault_way, program, ("main", (1,)), value))

    def test_arguments(self):
        for name in ("way", "least_steps"):
            self.assertEqual(["program", "spot", "wanted", "names"], list(inspect.signature(getattr(module, name)).parameters))
        self.assertEqual(["program", "spot", "value", "names"], list(inspect.signature(led).parameters))
        self.assertEqual(["program", "spot", "cell"], list(inspect.signature(fault_way).parameters))
        self.assertEqual(FOUND, fault_way(cell=None, spot=("main", (1,)), program=P))
        self.assertEqual(((), ((),)), way(wanted=(), spot=("main", (0,)), program=P))
        self.assertEqual(0, least_steps(wanted=(), spot=("main", (0,)), program=P))
        self.assertEqual(((), 4, {}), led(value=FOUND, spot=("main", (1,)), program=P))

    def test_nothing_is_changed(self):
        value = [copy.deepcopy(FOUND), [1, {"a": [2]}]]
        led(P, ("main", (1,)), value, "x")
        self.assertEqual(([FOUND, [1, {"a": [2]}]], Program(sample())), (value, P))


if __name__ == "__main__":
    unittest.main()
