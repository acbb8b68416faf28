"""Outcomes and ends of functions: [20], [21] of the document."""

import inspect
import itertools
import random
import unittest

from surelyset import ends as module
from surelyset.ends import ends, outcomes
from surelyset.programs import Program
from tests.makers import SmallMaker
from tests.plainly import Plainly, TooMuch
from tests.support import any_values, failure, sample
from tests.test_states import one_of, plain, seen_names

SIZE = 10 ** 30
K, S, U = "keep", "set", "unset"


def child_ends(body, names, *asked, **functions):
    """The ends of a child of main with this body, where main has these names."""
    made = {"main": (None, names, []), "f": ("main", {}, body)}
    made.update(functions)
    return ends(Program(made), "f", *asked)


class OutcomesTest(unittest.TestCase):
    def test_example(self):
        program = Program(sample())
        self.assertEqual({"done": ((K,), (S,)), "fail w": ((K,), (S,))}, ends(program, "f", "x"))
        self.assertEqual(("done", "fail w"), outcomes(program, "f"))

    def test_ascending(self):
        body = [one_of(("fail", "z"), ("fail", "ab"), ("fail", "a"), ("fail", "b"), ("back",))]
        program = Program({"main": (None, {}, body), "f": (None, {}, [("fail", "q")])})
        self.assertEqual(("done", "fail a", "fail ab", "fail b", "fail z"), outcomes(program, "main"))
        self.assertEqual(("fail q",), outcomes(program, "f"))
        told = ends(program, "main")
        self.assertEqual([(word, ((),)) for word in outcomes(program, "main")], list(told.items()))

    def test_functions_without_end(self):
        functions = {"main": (None, {}, [("ever", [])]), "f": (None, {}, [("call", "f")]),
                     "g": (None, {}, [("either", [("call", "f")], [("fail", "a")])]),
                     "h": (None, {}, [("try", [("ever", [("call", "g")])], [(["b"], [])], [("call", "f")])])}
        program = Program(functions)
        self.assertEqual([(), (), ("fail a",), ()], [outcomes(program, name) for name in ("main", "f", "g", "h")])
        self.assertEqual([{}, {}, {"fail a": ((),)}, {}], [ends(program, name) for name in ("main", "f", "g", "h")])

    def test_recursion(self):
        functions = {"main": (None, {}, []), "f": ("main", {}, [("either", [("call", "g")], [("fail", "a")])]),
                     "g": ("main", {}, [("try", [("call", "f")], [(["a"], [("fail", "b")])], [])])}
        program = Program(functions)
        self.assertEqual(("fail a", "fail b"), outcomes(program, "f"))
        self.assertEqual(("fail b",), outcomes(program, "g"))

    def test_jumps_through_finally(self):
        jumps = one_of(("back",), ("fail", "u"), ("fail", "w"))
        body = [("try", [("try", [jumps], [(["u"], [("fail", "v")])], [one_of(("fail", "x"))])], [(["w", "x"], [])], [])]
        program = Program({"main": (None, {}, body)})
        self.assertEqual(("done", "fail v"), outcomes(program, "main"))
        body = [("try", [jumps], [], [("ever", [("leave",)]), ("back",)]), ("fail", "z")]
        self.assertEqual(("done",), outcomes(Program({"main": (None, {}, body)}), "main"))


class EndsTest(unittest.TestCase):
    def test_what_comes_last(self):
        names = {"x": "plain", "y": "given", "a": (SIZE, ())}
        self.assertEqual({"done": ((K,),)}, child_ends([("read", "x")], names, "x"))
        self.assertEqual({"done": ((S,),)}, child_ends([("drop", "x"), ("set", "x")], names, "x"))
        self.assertEqual({"done": ((U,),)}, child_ends([("set", "x"), ("drop", "x")], names, "x"))
        self.assertEqual({"done": ((U, S, K),)},
                         child_ends([("cut", "a", 5), ("put", "a", 0), ("set", "y"), ("drop", "y")], names,
                                    ("a", 5), ("a", 0), ("a", 1)))
        self.assertEqual({"done": ((U, U),)}, child_ends([("drop", "y"), ("look", "a", 0)], names, "y", "y"))

    def test_ascending(self):
        names = plain("x", "y")
        body = [one_of(("set", "x"), ("drop", "x")), one_of(("set", "y"), ("drop", "y")), one_of(("fail", "w"))]
        rows = tuple(itertools.product((K, S, U), repeat=2))
        told = child_ends(body, names, "y", "x")
        self.assertEqual([("done", rows), ("fail w", rows)], list(told.items()))
        self.assertEqual({"done": ((K, K, K), (S, S, S), (U, U, U)), "fail w": ((K, K, K), (S, S, S), (U, U, U))},
                         child_ends(body, names, "x", "x", "x"))

    def test_by_outcome(self):
        names = plain("x", "y")
        body = [("set", "x"), ("either", [("drop", "y"), ("fail", "w")], [("set", "y"), ("back",)]), ("drop", "x")]
        self.assertEqual({"done": ((S, S),), "fail w": ((S, U),)}, child_ends(body, names, "x", "y"))

    def test_several_owners(self):
        functions = {
            "main": (None, plain("x", "z"), []),
            "f": ("main", plain("y", "z"), []),
            "g": ("f", plain("w"), [("set", "x"), ("drop", "y"), one_of(("set", "z")), ("set", "w")]),
        }
        program = Program(functions)
        self.assertEqual({"done": ((K, S, U), (S, S, U))}, ends(program, "g", "z", "x", "y"))
        # The names are those that the parent sees: w is none of them, and the z of main is hidden.
        self.assertEqual(("UnknownName", {"value": "w"}), failure(ends, program, "g", "w"))
        self.assertEqual({"done": ((K,),)}, ends(program, "f", "z"))

    def test_own_names_hide(self):
        functions = {
            "main": (None, plain("x"), []),
            "f": ("main", plain("x"), [("set", "x"), ("call", "g")]),
            "g": ("main", {}, [("either", [("drop", "x")], [("call", "h")])]),
            "h": ("g", {}, [("set", "x")]),
        }
        self.assertEqual({"done": ((S,), (U,))}, ends(Program(functions), "f", "x"))

    def test_calls(self):
        """What a call does to a name in the caller's frame."""
        functions = {
            "main": (None, plain("m"), []),
            "f": ("main", plain("x"), []),
            # A call of f around makes a new x; m is the same one.
            "g": ("f", {}, [("set", "x"), ("call", "e")]),
            "e": ("main", plain("x"), [("drop", "m"), ("drop", "x")]),
            "h": ("f", {}, [("set", "x"), ("set", "m"), ("either", [("call", "f")], [("call", "main")])]),
        }
        program = Program(functions)
        self.assertEqual({"done": ((S, U),)}, ends(program, "g", "x", "m"))
        self.assertEqual({"done": ((S, S),)}, ends(program, "h", "x", "m"))
        functions["f"] = ("main", plain("x"), [("drop", "m"), ("drop", "x")])
        self.assertEqual({"done": ((S, S), (S, U))}, ends(Program(functions), "h", "x", "m"))

    def test_itself(self):
        names = plain("x", "y")
        body = [("either", [("set", "x"), ("call", "f"), ("set", "y")], [("drop", "x")])]
        self.assertEqual({"done": ((U, K), (U, S))}, child_ends(body, names, "x", "y"))
        functions = {"main": (None, plain("x"), []),
                     "f": ("main", plain("y"), [("either", [("call", "g"), ("set", "x")], [])]),
                     "g": ("f", {}, [("set", "y"), ("call", "f"), one_of(("drop", "y"))])}
        program = Program(functions)
        self.assertEqual({"done": ((K,), (S,))}, ends(program, "f", "x"))
        self.assertEqual({"done": ((K, S), (K, U), (S, S), (S, U))}, ends(program, "g", "x", "y"))

    def test_functions_that_are_not_called(self):
        functions = {"main": (None, plain("x"), [("ever", [])]), "f": ("main", {}, [("set", "x")])}
        self.assertEqual({"done": ((S,),)}, ends(Program(functions), "f", "x"))

    def test_no_parent(self):
        functions = {"main": (None, plain("x"), [("set", "x")]), "f": (None, plain("x"), [("fail", "a")])}
        program = Program(functions)
        self.assertEqual([{"done": ((),)}, {"fail a": ((),)}], [ends(program, "main"), ends(program, "f")])
        for name in ("main", "f"):
            self.assertEqual(("UnknownName", {"value": "x"}), failure(ends, program, name, "x"))

    def test_rounds(self):
        names = plain("x", "y", "z")
        moves = one_of(("set", "x"), ("drop", "y"), ("set", "z"))
        for many in (0, 1, 2, 3, 4, SIZE):
            body = [("count", "v", 0, many, [moves])]
            want = tuple(row for row in itertools.product((K, S), (K, U), (K, S)) if 3 - row.count(K) <= many)
            self.assertEqual({"done": want}, child_ends(body, names, "x", "y", "z"))
        want = tuple(itertools.product((K, S), (K, U), (K, S)))
        self.assertEqual({"done": want}, child_ends([("while", [moves])], names, "x", "y", "z"))
        body = [("ever", [moves, one_of(("leave",), ("fail", "w"))])]
        self.assertEqual({"done": want, "fail w": want}, child_ends(body, names, "x", "y", "z"))
        self.assertEqual({}, child_ends([("ever", [moves])], names, "x", "y", "z"))

    def test_rounds_with_cells(self):
        names = {"a": (SIZE, ())}
        body = [("count", "v", 3, SIZE - 3, [("put", "a", ("v", 3)), ("cut", "a", ("v", -3)), one_of(("leave",))])]
        self.assertEqual({"done": ((U, S), (U, U))}, child_ends(body, names, ("a", 0), ("a", 6)))
        self.assertEqual({"done": ((K, S), (U, S), (U, U))}, child_ends(body, names, ("a", 1), ("a", 6)))
        self.assertEqual({"done": ((K, K), (S, K), (U, K), (U, S))}, child_ends(body, names, ("a", 7), ("a", SIZE - 1)))
        body = [("count", "v", 0, SIZE, [("put", "a", ("v", 0)), ("cut", "a", 77)])]
        self.assertEqual({"done": ((S, U, S),)}, child_ends(body, names, ("a", 0), ("a", 77), ("a", SIZE - 1)))


class ErrorTest(unittest.TestCase):
    def setUp(self):
        functions = {"main": (None, {"x": "plain", "a": (3, ())}, []), "f": ("main", {"y": "plain", "x": (2, ())}, [])}
        self.program = Program(functions)

    def test_functions(self):
        for value in [value for value in any_values() if value not in ("f", "main")] + ["x", "g", ("f",)]:
            self.assertEqual(("UnknownFunction", {"value": value}), failure(ends, self.program, value, 1, 2, 3, 4))
            self.assertEqual(("UnknownFunction", {"value": value}), failure(outcomes, self.program, value))
        with self.assertRaises(KeyError):
            outcomes(self.program, "x")

    def test_too_many(self):
        self.assertEqual(("TooMany", {"limit": 3}), failure(ends, self.program, "f", "x", "x", "x", "x"))
        self.assertEqual(("TooMany", {"limit": 3}), failure(ends, self.program, "main", 1, 2, 3, 4, 5))

    def test_names(self):
        wrong = [value for value in any_values() if value != "x"]
        wrong += ["y", "a", ("x", 0), ("a", 3), ("a", -1), ("a", True), ["a", 1], ("a", 1, 1), "f"]
        for value in wrong:
            self.assertEqual(("UnknownName", {"value": value}), failure(ends, self.program, "f", value))
            self.assertEqual(("UnknownName", {"value": value}), failure(ends, self.program, "f", "x", value, None))
            self.assertEqual(("UnknownName", {"value": value}), failure(ends, self.program, "main", value))
        self.assertEqual({"done": ((K, K),)}, ends(self.program, "f", "x", ("a", 2)))

    def test_arguments(self):
        self.assertEqual(("done",), outcomes(function="f", program=self.program))
        self.assertEqual({"done": ((),)}, ends(function="f", program=self.program))
        for function in (ends, outcomes):
            self.assertEqual(module.__name__, function.__module__)
        self.assertEqual(["program", "function", "names"], list(inspect.signature(ends).parameters))

    def test_new_dicts(self):
        told = ends(self.program, "f", "x")
        told["done"] = told["more"] = None
        self.assertEqual({"done": ((K,),)}, ends(self.program, "f", "x"))


class RandomTest(unittest.TestCase):
    def test_small_programs(self):
        compared = 0
        for seed in range(300):
            chance = random.Random(seed + 5000)
            maker = SmallMaker(chance, chance.choice([6, 10, 15, 20]), chance.choice([3, 4, 5]), names=chance.choice([1, 2]))
            functions = maker.functions()
            program = Program(functions)
            try:
                for name in program.names:
                    self.compare(program, functions, name, chance)
            except TooMuch:
                continue
            compared += 1
        self.assertGreater(compared, 270)

    def compare(self, program, functions, name, chance):
        parent = program[name][0]
        seen = [] if parent is None else seen_names(program, parent)
        for many in (0, 1, 2, 3) if seen else (0,):
            names = [chance.choice(seen) for _ in range(many)]
            told = ends(program, name, *names)
            self.assertEqual(list(Plainly(functions).ends(name, names).items()), list(told.items()), (functions, name, names))
            self.assertEqual(tuple(told), outcomes(program, name))


if __name__ == "__main__":
    unittest.main()
