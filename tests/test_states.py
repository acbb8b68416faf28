"""With which states runs come to spots, verdicts and faults: [20], [21], [23] of the document."""

import inspect
import itertools
import random
import unittest

from surelyset import states as module
from surelyset.cells import read_ranges
from surelyset.programs import Program
from surelyset.running import run
from surelyset.states import Checker, faults, is_sound, states, verdict
from tests.makers import SmallMaker
from tests.plainly import Plainly, TooMuch, as_ranges
from tests.support import any_values, failure, main_of, sample

SIZE = 10 ** 30
S, U = "set", "unset"


def main_states(body, names, path, *asked):
    """The states of names at a spot of a program that is main alone."""
    return states(Program(main_of(body, names)), ("main", path), *asked)


def plain(*words):
    return {word: "plain" for word in words}


def one_of(*statements):
    """An either of these single statements and of nothing."""
    return ("either", *([statement] for statement in statements), [])


class DocumentTest(unittest.TestCase):
    def test_example(self):
        program = Program(sample())
        self.assertEqual([((S,), (U,)), "sure", ((("main", (1,)), None),)],
                         [states(program, ("main", (1,)), "x"), verdict(program, ("main", (1,)), "y"), faults(program)])


class StatesTest(unittest.TestCase):
    def test_no_names(self):
        program = Program(main_of([("either", [("back",)], []), ("ever", []), ("read", "x")], plain("x")))
        for path in ((0,), (0, 0, 0), (0, 1, 0), (1,), (1, 0, 0)):
            self.assertEqual(((),), states(program, ("main", path)))
        for path in ((0, 0, 1), (2,), (3,)):
            self.assertEqual((), states(program, ("main", path)))
            self.assertEqual((), states(program, ("main", path), "x"))
            self.assertEqual((), states(program, ("main", path), "x", "x", "x"))

    def test_straight(self):
        body = [("set", "x"), ("drop", "x"), ("read", "x"), ("put", "a", 3), ("cut", "a", 3), ("look", "a", 3)]
        names = {"x": "plain", "y": "given", "a": (5, ((3, 5),))}
        for at, state in enumerate([U, S, U, U, U, U, U]):
            self.assertEqual(((state, S),), main_states(body, names, (at,), "x", "y"))
        for at, state in enumerate([S, S, S, S, S, U, U]):
            self.assertEqual(((state, S, U),), main_states(body, names, (at,), ("a", 3), ("a", 4), ("a", 2)))

    def test_names_stand_together(self):
        body = [("either", [("set", "x"), ("drop", "z")], [("set", "y")])]
        names = {"x": "plain", "y": "plain", "z": "given"}
        self.assertEqual(((S, U, U), (U, S, S)), main_states(body, names, (1,), "x", "y", "z"))
        self.assertEqual(((S, U), (U, S)), main_states(body, names, (1,), "y", "x"))
        self.assertEqual(((S, S, U), (U, U, S)), main_states(body, names, (1,), "x", "x", "y"))
        self.assertEqual(((S, S, S), (U, U, U)), main_states(body, names, (1,), "z", "z", "z"))

    def test_rounds(self):
        """How many rounds there are matters as long as they are few."""
        moves = one_of(("set", "x"), ("set", "y"), ("set", "z"))
        names = plain("x", "y", "z")
        for low, high in ((0, 0), (0, 1), (0, 2), (0, 3), (0, 4), (0, 9), (-SIZE, SIZE), (5, 4)):
            many = max(high - low, 0)
            body = [("count", "v", low, high, [moves])]
            want = tuple(row for row in itertools.product((S, U), repeat=3) if row.count(S) <= many)
            self.assertEqual(want, main_states(body, names, (1,), "x", "y", "z"))
            # At the beginning of a round one round less was done.
            want = tuple(row for row in itertools.product((S, U), repeat=3) if row.count(S) < many)
            self.assertEqual(want, main_states(body, names, (0, 0, 0), "x", "y", "z"))
        for head in ("while", "ever"):
            want = tuple(itertools.product((S, U), repeat=3))
            self.assertEqual(want, main_states([(head, [moves])], names, (0, 0, 0), "x", "y", "z"))
            self.assertEqual(want if head == "while" else (),
                             main_states([(head, [moves])], names, (1,), "x", "y", "z"))

    def test_rounds_that_must_move(self):
        moves = ("either", [("set", "x")], [("set", "y")], [("set", "z")])
        names = plain("x", "y", "z")
        for many in (1, 2, 3, 4, 5, SIZE):
            body = [("count", "v", 0, many, [moves])]
            want = tuple(row for row in itertools.product((S, U), repeat=3) if 1 <= row.count(S) <= many)
            self.assertEqual(want, main_states(body, names, (1,), "x", "y", "z"))

    def test_rounds_set_and_drop(self):
        names = {"x": "plain", "y": "given"}
        body = [("count", "v", 0, SIZE, [("either", [("set", "x"), ("drop", "y")], [("drop", "x"), ("set", "y")])])]
        self.assertEqual(((S, U), (U, S)), main_states(body, names, (1,), "x", "y"))
        self.assertEqual(((S, U), (U, S)), main_states(body, names, (0, 0, 0), "x", "y"))
        body = [("count", "v", 0, SIZE, [("set", "x"), ("drop", "y"), one_of(("leave",)), ("drop", "x")])]
        self.assertEqual(((S, U), (U, U)), main_states(body, names, (1,), "x", "y"))

    def test_leave_next_back(self):
        names = plain("x", "y")
        body = [("while", [("set", "x"), one_of(("leave",), ("next",), ("back",)), ("set", "y"), ("drop", "x")])]
        self.assertEqual(((S, S), (S, U), (U, S), (U, U)), main_states(body, names, (1,), "x", "y"))
        self.assertEqual(((S, S), (S, U)), main_states(body, names, (0, 0, 1, 2, 0), "x", "y"))
        body = [("ever", [("set", "x"), one_of(("leave",), ("next",), ("back",)), ("set", "y"), ("drop", "x")])]
        self.assertEqual(((S, S), (S, U)), main_states(body, names, (1,), "x", "y"))

    def test_try(self):
        names = plain("x", "y", "z")
        inner = [("set", "x"), one_of(("fail", "u"), ("fail", "w")), ("set", "y")]
        handlers = [(["w"], [("set", "z")]), ([], [("drop", "x")])]
        body = [("try", inner, handlers, [("read", "x")])]
        self.assertEqual(((S, U, U),), main_states(body, names, (0, 1, 0), "x", "y", "z"))
        self.assertEqual(((S, U, U),), main_states(body, names, (0, 2, 0), "x", "y", "z"))
        self.assertEqual(((S, S, U), (S, U, S), (U, U, U)), main_states(body, names, (0, 3, 0), "x", "y", "z"))
        self.assertEqual(((S, S, U), (S, U, S), (U, U, U)), main_states(body, names, (1,), "x", "y", "z"))

    def test_jumps_through_finally(self):
        names = plain("x", "y", "z")
        jumps = [("leave",), ("next",), ("back",), ("fail", "u")]
        inner = ("try", [("set", "x"), one_of(*jumps)], [(["u"], [("leave",)])], [("set", "y")])
        outer = ("try", [inner, ("drop", "y")], [], [one_of(("leave",)), ("set", "z")])
        body = [("ever", [outer, ("drop", "z")])]
        # Behind the loop: leave of the last block, with z set in a round before or not, and leaves of inner blocks.
        self.assertEqual(((S, S, S), (S, S, U), (S, U, S), (S, U, U)), main_states(body, names, (1,), "x", "y", "z"))
        body = [("while", [("try", [("set", "x"), ("back",)], [], [("set", "y"), ("leave",)])]), ("read", "x")]
        program = Program(main_of(body, names))
        self.assertEqual(((S, S), (U, U)), states(program, ("main", (1,)), "x", "y"))
        self.assertEqual((), states(program, ("main", (0, 0, 1)), "x", "y"))

    def test_functions_without_runs(self):
        functions = {"main": (None, plain("x"), [("ever", []), ("call", "f")]),
                     "f": ("main", {}, [("read", "x")]), "g": (None, plain("y"), [("read", "y")])}
        program = Program(functions)
        self.assertEqual((), states(program, ("f", (0,)), "x"))
        self.assertEqual((), states(program, ("g", (0,))))
        self.assertEqual("never", verdict(program, ("g", (0,)), "y"))
        self.assertEqual((), faults(program))

    def test_calls_that_never_end(self):
        functions = {"main": (None, plain("x"), [("either", [("call", "f")], []), ("read", "x")]),
                     "f": ("main", {}, [("set", "x"), ("call", "f")])}
        program = Program(functions)
        self.assertEqual(((U,),), states(program, ("main", (1,)), "x"))
        self.assertEqual(((S,), (U,)), states(program, ("f", (0,)), "x"))
        self.assertEqual(((S,),), states(program, ("f", (1,)), "x"))
        self.assertEqual((), states(program, ("f", (2,)), "x"))
        self.assertEqual((), states(program, ("main", (0, 0, 1)), "x"))

    def test_frames(self):
        """What is seen at a spot are the names of the frame on which the own one hangs."""
        functions = {
            "main": (None, plain("m"), [("call", "f"), ("read", "m")]),
            "f": ("main", plain("x"), [("either", [("set", "x"), ("set", "m"), ("call", "g")], []), ("read", "x")]),
            "g": ("f", plain("y"), [("set", "y"), ("call", "f"), ("read", "y"), ("drop", "x")]),
        }
        program = Program(functions)
        # A call of f around: a new x, while g goes on to see the old one, and m is the same one.
        self.assertEqual(((S, U), (U, U)), states(program, ("f", (0,)), "m", "x"))
        self.assertEqual(((S, S, U),), states(program, ("g", (0,)), "m", "x", "y"))
        self.assertEqual(((S, S, S),), states(program, ("g", (2,)), "m", "x", "y"))
        self.assertEqual(((S, U, S),), states(program, ("g", (4,)), "m", "x", "y"))
        self.assertEqual(((S, U), (U, U)), states(program, ("f", (1,)), "m", "x"))

    def test_main_within(self):
        functions = {
            "main": (None, {"x": "given"}, [("drop", "x"), one_of(("call", "f")), ("read", "x")]),
            "f": ("main", {}, [("call", "main"), ("read", "x"), ("set", "x")]),
        }
        program = Program(functions)
        self.assertEqual(((S,),), states(program, ("main", (0,)), "x"))
        self.assertEqual(((U,),), states(program, ("f", (1,)), "x"))
        self.assertEqual(((S,), (U,)), states(program, ("main", (2,)), "x"))

    def test_hidden_names(self):
        functions = {
            "main": (None, plain("x"), [("call", "f"), ("read", "x")]),
            "f": ("main", plain("x"), [("set", "x"), ("call", "g"), ("read", "x")]),
            "g": ("main", {}, [one_of(("set", "x"), ("call", "f"))]),
        }
        program = Program(functions)
        self.assertEqual(((S,), (U,)), states(program, ("main", (1,)), "x"))
        self.assertEqual(((S,),), states(program, ("f", (2,)), "x"))
        self.assertEqual(((S,), (U,)), states(program, ("g", (1,)), "x"))

    def test_spots_of_all_kinds(self):
        body = [
            ("try", [("set", "x"), ("either", [("fail", "u")], [("set", "y")])], [(["u"], [("drop", "x")])], [("read", "x")]),
            ("while", [("count", "v", 0, 2, [("set", "y")])]),
        ]
        program = Program(main_of(body, plain("x", "y")))
        want = {
            (0,): "UU", (0, 0, 0): "UU", (0, 0, 1): "SU", (0, 0, 1, 0, 0): "SU", (0, 0, 1, 0, 1): "",
            (0, 0, 1, 1, 0): "SU", (0, 0, 1, 1, 1): "SS", (0, 0, 2): "SS", (0, 1, 0): "SU", (0, 1, 1): "UU",
            (0, 2, 0): "SS UU", (0, 2, 1): "SS UU", (1,): "SS UU", (1, 0, 0): "SS US UU", (1, 0, 0, 0, 0): "SS US UU",
            (1, 0, 0, 0, 1): "SS US", (1, 0, 1): "SS US", (2,): "SS US UU",
        }
        self.assertEqual(set(want), {path for _, path in program.spots})
        for path, told in want.items():
            rows = tuple(tuple(S if letter == "S" else U for letter in row) for row in told.split())
            self.assertEqual(rows, states(program, ("main", path), "x", "y"), path)

    def test_cells_of_great_arrays(self):
        body = [("count", "v", 0, SIZE, [("put", "a", ("v", 0)), one_of(("leave",))])]
        names = {"a": (SIZE, ())}
        program = Program(main_of(body, names))
        self.assertEqual(((S, S, S), (S, S, U), (S, U, U)),
                         states(program, ("main", (1,)), ("a", 0), ("a", 1), ("a", 10 ** 29)))
        self.assertEqual(((S, S, S), (S, S, U), (S, U, U), (U, U, U)),
                         states(program, ("main", (0, 0, 0)), ("a", 0), ("a", 1), ("a", 2)))
        self.assertEqual(((S, S), (S, U), (U, U)),
                         states(program, ("main", (0, 0, 1)), ("a", SIZE - 2), ("a", SIZE - 1)))


class VerdictTest(unittest.TestCase):
    def test_each(self):
        program = Program(main_of([("either", [("set", "x")], [("back",)], []), ("ever", [("set", "y")])],
                                  {"x": "plain", "y": "plain", "g": "given", "a": (4, ((1, 2),))}))
        self.assertEqual("fault", verdict(program, ("main", (1,)), "x"))
        self.assertEqual("sure", verdict(program, ("main", (0, 0, 1)), "x"))
        self.assertEqual("never", verdict(program, ("main", (0, 1, 1)), "x"))
        self.assertEqual("fault", verdict(program, ("main", (1, 0, 0)), "y"))
        self.assertEqual("sure", verdict(program, ("main", (1, 0, 1)), "y"))
        self.assertEqual("never", verdict(program, ("main", (2,)), "g"))
        self.assertEqual("sure", verdict(program, ("main", (1,)), "g"))
        self.assertEqual("sure", verdict(program, ("main", (1,)), ("a", 1)))
        self.assertEqual("fault", verdict(program, ("main", (1,)), ("a", 2)))


class FaultsTest(unittest.TestCase):
    def test_ascending(self):
        functions = {
            "main": (None, {"x": "plain", "g": "given", "a": (9, ((2, 4),))},
                     [("read", "x"), ("read", "g"), ("look", "a", 0), ("look", "a", 2), ("call", "f"), ("read", "x"),
                      ("count", "v", 0, 9, [("look", "a", ("v", 0))])]),
            "f": ("main", plain("y"), [("read", "y"), ("set", "x"), ("read", "x")]),
            "b": (None, plain("z"), [("read", "z")]),
        }
        program = Program(functions)
        self.assertEqual(((("f", (0,)), None), (("main", (0,)), None), (("main", (2,)), ((0, 1),)),
                          (("main", (6, 0, 0)), ((0, 2), (4, 9)))), faults(program))
        self.assertFalse(is_sound(program))

    def test_sound(self):
        for body in ([], [("set", "x"), ("read", "x")], [("ever", []), ("read", "x")],
                     [("count", "v", 0, 4, [("put", "a", ("v", 0)), ("look", "a", ("v", 0))])]):
            program = Program(main_of(body, {"x": "plain", "a": (SIZE, ())}))
            self.assertEqual(((), True), (faults(program), is_sound(program)))
        program = Program(main_of([("count", "v", 0, 4, [("look", "a", ("v", 0))])], {"a": (5, ((0, 3),))}))
        self.assertEqual((((("main", (0, 0, 0)), ((3, 4),)),), False), (faults(program), is_sound(program)))


class CheckerTest(unittest.TestCase):
    def test_like_the_functions(self):
        chance = random.Random(1)
        for seed in range(30):
            program = Program(SmallMaker(random.Random(seed), 20).functions())
            checker, other = Checker(program), Checker(Program(sample()))
            self.assertEqual(program, checker.program)
            for _ in range(15):
                spot = chance.choice(program.spots)
                names = [chance.choice(seen_names(program, spot[0])) for _ in range(chance.randrange(4))]
                self.assertEqual(states(program, spot, *names), checker(spot, names))
                self.assertEqual(states(program, spot, *names), checker(spot, tuple(names)))
                self.assertEqual(((S,), (U,)), other(("main", (1,)), ["x"]))
                if names:
                    self.assertEqual(verdict(program, spot, names[0]), checker.verdict(spot, names[0]))
                self.assertEqual(states(program, spot), checker(spot))

    def test_many_questions(self):
        names = {"a": (SIZE, ()), "x": "plain"}
        program = Program(main_of([("count", "v", 0, 50, [("put", "a", ("v", 0))])], names))
        checker = Checker(program)
        for _ in range(2):
            for cell in range(150):
                state = S if cell < 50 else U
                self.assertEqual(((state, U, S),), checker(("main", (1,)), [("a", cell), "x", ("a", 49)]))

    def test_program_is_kept(self):
        program = Program(sample())
        checker = Checker(program)
        self.assertIs(program, checker.program)
        with self.assertRaises(AttributeError):
            checker.program = program


def seen_names(program, function):
    """All names and cells that a function sees."""
    found = []
    for word in "abxyz":
        try:
            owner = program.owner(function, word)
        except KeyError:
            continue
        own = program.functions[owner][1][word]
        found.extend([word] if isinstance(own, str) else [(word, cell) for cell in range(own[0])])
    return found


class ErrorTest(unittest.TestCase):
    def setUp(self):
        functions = {"main": (None, {"x": "plain", "a": (3, ())}, [("call", "f"), ("count", "v", 0, 2, [])]),
                     "f": ("main", {"a": "given", "y": (2, ())}, [])}
        self.program = Program(functions)
        self.checker = Checker(self.program)

    def both(self, want, spot, *names):
        self.assertEqual(want, failure(states, self.program, spot, *names))
        self.assertEqual(want, failure(self.checker, spot, list(names)))
        if len(names) == 1:
            self.assertEqual(want, failure(verdict, self.program, spot, names[0]))
            self.assertEqual(want, failure(self.checker.verdict, spot, names[0]))

    def test_spots(self):
        wrong = [value for value in any_values() if value != ("main", (0,))]
        wrong += [("f", (1,)), ("main", (3,)), ("main", (1, 0, 1)), ("main", (False,)), ("main", (0, 0)), "main", ("g", (0,))]
        for value in wrong:
            self.both(("UnknownSpot", {"value": value}), value, "nothing", 1, 2, 3)
            self.both(("UnknownSpot", {"value": value}), value, "nothing")
            with self.assertRaises(KeyError):
                self.checker(value)

    def test_too_many(self):
        self.both(("TooMany", {"limit": 3}), ("main", (0,)), "x", "x", "x", "x")
        self.both(("TooMany", {"limit": 3}), ("main", (0,)), None, 1, [], {}, ())
        with self.assertRaises(OverflowError):
            self.checker(("main", (0,)), ["x"] * 4)

    def test_names(self):
        spot = ("main", (0,))
        wrong = [value for value in any_values() if value != "x"]
        wrong += ["y", "a", "v", "main", ("a", 3), ("a", -1), ("a", True), ("a", False), ("a", "0"), ("x", 0), ("y", 0),
                  ["a", 0], ("a",), ("a", 0, 0), (("a", 0), 0), ("a", (0,)), ("a", 10 ** 399), ("v", 0), ("a", ("v", 0))]
        for value in wrong:
            self.both(("UnknownName", {"value": value}), spot, value)
            self.both(("UnknownName", {"value": value}), spot, "x", value, "nothing")
            self.both(("UnknownName", {"value": value}), spot, ("a", 2), "x", value)
        # In f the array of main is hidden by a name.
        self.assertEqual(((S, U, U),), states(self.program, ("f", (0,)), "a", ("y", 1), "x"))
        for value in (("a", 0), "y", ("y", 2), "f"):
            self.both(("UnknownName", {"value": value}), ("f", (0,)), value)

    def test_arguments(self):
        spot = ("main", (0,))
        self.assertEqual(((U,),), self.checker(names=["x"], spot=spot))
        self.assertEqual("fault", self.checker.verdict(name="x", spot=spot))
        self.assertEqual("fault", verdict(spot=spot, name="x", program=self.program))
        self.assertEqual(((),), states(program=self.program, spot=spot))
        self.assertEqual((), faults(program=self.program))
        self.assertTrue(is_sound(program=self.program))
        self.assertEqual(self.program, Checker(program=self.program).program)
        for function in (states, verdict, faults, is_sound, Checker):
            self.assertEqual(module.__name__, function.__module__)
        self.assertEqual(["self", "spot", "names"], list(inspect.signature(Checker.__call__).parameters))
        self.assertIn("verdict", vars(Checker))

    def test_nothing_is_changed(self):
        names = ["x", ("a", 1)]
        self.checker(("main", (0,)), names)
        self.assertEqual(["x", ("a", 1)], names)


class RandomTest(unittest.TestCase):
    """Comparisons with the second reading, which goes through all rounds and frames."""

    def test_small_programs(self):
        compared = 0
        for seed in range(300):
            chance = random.Random(seed)
            maker = SmallMaker(chance, chance.choice([6, 10, 15, 20]), chance.choice([3, 4, 5]), names=chance.choice([1, 2, 3]))
            functions = maker.functions()
            try:
                plainly = Plainly(functions).run_main()
            except TooMuch:
                continue
            self.compare(Program(functions), plainly, chance)
            compared += 1
        self.assertGreater(compared, 270)

    def compare(self, program, plainly, chance):
        checker = Checker(program)
        for spot in program.spots:
            seen = seen_names(program, spot[0])
            for many in (0, 1, 2, 3):
                names = [chance.choice(seen) for _ in range(many)]
                self.assertEqual(plainly.states(spot, names), checker(spot, names), (program.functions, spot, names))
        self.assertEqual(self.faults(program, plainly), faults(program), program.functions)
        self.assertEqual(not self.faults(program, plainly), is_sound(program))

    def faults(self, program, plainly):
        found = []
        for spot in program.spots:
            statement = program.statement(spot)
            if statement and statement[0] == "read" and (U,) in plainly.states(spot, [statement[1]]):
                found.append((spot, None))
            if statement and statement[0] == "look":
                told = as_ranges(plainly.read_cells(spot, statement))
                cells = tuple((first, behind) for first, behind, is_set in told if not is_set)
                found.extend([(spot, cells)] if cells else [])
        return tuple(found)

    def test_runs_by_choices(self):
        """What runs by all rows of choices read is what is told, where there are not too many of them."""
        whole = 0
        for seed in range(250):
            chance = random.Random(seed + 700)
            program = Program(SmallMaker(chance, chance.choice([6, 10, 15]), 4).functions())
            seen, is_whole = self.all_runs(program)
            whole += is_whole
            checker = Checker(program)
            for spot in program.spots:
                statement = program.statement(spot)
                if statement and statement[0] == "read":
                    told = {row == (S,) for row in checker(spot, [statement[1]])}
                    self.assertLessEqual(seen.get(spot, set()), told, (program.functions, spot))
                    if is_whole:
                        self.assertEqual(seen.get(spot, set()), told, (program.functions, spot))
                if statement and statement[0] == "look" and is_whole:
                    told = {verdict for _, _, verdict in read_ranges(program, spot)}
                    self.assertEqual(False in seen.get(spot, set()), "fault" in told, (program.functions, spot))
                    self.assertEqual(spot in seen, told != set(), (program.functions, spot))
        self.assertGreater(whole, 50)

    def all_runs(self, program):
        """A dict from spots to sets of what was read there, and whether these were all runs."""
        seen, waiting, many = {}, [[]], 0
        is_whole = True
        while waiting and many < 300:
            many += 1
            choices = waiting.pop(0)
            told = run(program, choices, most=150)
            for spot, is_set in told.events:
                seen.setdefault(spot, set()).add(is_set)
            is_whole = is_whole and told.ending != "most"
            if told.ending == "open":
                waiting.extend([*choices, at] for at in range(3) if failure(run, program, [*choices, at], most=150) is None)
        return seen, is_whole and not waiting


if __name__ == "__main__":
    unittest.main()
