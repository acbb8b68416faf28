"""Initial values: [25] of the document."""

import inspect
import random
import unittest

from surelyset import initial as module
from surelyset.initial import hopeless, initial, needed
from surelyset.programs import Program
from surelyset.states import faults, is_sound
from tests.makers import SmallMaker
from tests.stepping import Stepper, start_worths
from tests.support import main_of, sample
from tests.test_great import GreatMaker

SIZE = 10 ** 30
P = Program(sample())


class Fresh(Stepper):
    """A stepper that tells "fresh" for what was neither given nor set nor dropped in its frame."""

    def call(self, rest, frames, called, link):
        worths = {key: worth or None for key, worth in start_worths(self.functions, called, self.places).items()}
        frames = (*frames, (called, link, tuple(sorted(worths.items(), key=str))))
        return "done", (("block", (called, (), (), len(frames) - 1), 0), (("return",), rest)), frames

    def states(self, name, frame, frames):
        worths = {}
        while frame is not None:
            for key, worth in frames[frame][2]:
                worths[(frames[frame][0], key)] = {None: "fresh", True: "set", False: "unset"}[worth]
            frame = frames[frame][1]
        return tuple(worths.get(place) for place in self.places)


class NeededTest(unittest.TestCase):
    def told(self, functions):
        program = Program(functions)
        return needed(program), hopeless(program)

    def test_example(self):
        self.assertEqual({"main": {"x": True}}, needed(P))
        functions = sample()
        functions["main"][1]["x"] = "given"
        self.assertEqual(Program(functions), initial(P))
        self.assertEqual((), hopeless(P))

    def test_names(self):
        names = {word: "plain" for word in "cdsxy"}
        body = [("set", "s"), ("read", "s"), ("drop", "d"), ("read", "d"), ("either", [("set", "c")], []), ("read", "c"),
                ("read", "x"), ("drop", "x"), ("read", "x"), ("back",), ("read", "y")]
        self.assertEqual(({"main": {"c": True, "x": True}}, ((("main", (3,)), None), (("main", (8,)), None))),
                         self.told(main_of(body, names)))
        self.assertEqual(({}, ()), self.told(main_of([("read", "x")], {"x": "given"})))
        self.assertEqual(({}, ((("main", (1,)), None),)), self.told(main_of([("drop", "x"), ("read", "x")], {"x": "given"})))
        self.assertEqual(({}, ()), self.told(main_of([("set", "x")], {"x": "plain", "y": "plain"})))

    def test_frames_of_functions_that_call_themselves(self):
        functions = {"main": (None, {}, [("call", "f")]),
                     "f": (None, {"x": "plain"}, [("drop", "x"), ("either", [("call", "g")], [])]),
                     "g": (None, {"x": "plain", "y": "plain"}, [("either", [("set", "x"), ("set", "y"), ("call", "g"),
                                                                            ("read", "x")], [("read", "y")])])}
        self.assertEqual(({"g": {"y": True}}, ()), self.told(functions))
        functions["f"][2].append(("read", "x"))
        self.assertEqual(({"g": {"y": True}}, ((("f", (2,)), None),)), self.told(functions))
        functions["f"][2][0] = ("either", [("call", "f")], [("set", "x")])
        self.assertEqual(({"f": {"x": True}, "g": {"y": True}}, ()), self.told(functions))

    def test_reads_in_children(self):
        functions = {"main": (None, {"x": "plain", "y": "plain"}, [("call", "f"), ("drop", "x"), ("call", "f")]),
                     "f": ("main", {"y": "plain"}, [("read", "x"), ("read", "y")])}
        self.assertEqual(({"f": {"y": True}, "main": {"x": True}}, ((("f", (0,)), None),)), self.told(functions))
        functions["main"][2].pop(0)
        self.assertEqual(({"f": {"y": True}}, ((("f", (0,)), None),)), self.told(functions))
        functions["main"][2][0] = ("set", "x")
        self.assertEqual(({"f": {"y": True}}, ()), self.told(functions))

    def test_functions_that_are_not_called(self):
        functions = {**main_of([]), "f": (None, {"x": "plain"}, [("read", "x")])}
        self.assertEqual(({}, ()), self.told(functions))

    def test_cells(self):
        body = [("look", "a", 1), ("look", "a", 2), ("look", "a", 5), ("cut", "a", 7), ("look", "a", 7), ("put", "a", 0),
                ("look", "a", 0), ("either", [("put", "a", 3)], []), ("look", "a", 3)]
        functions = main_of(body, {"a": (9, ((4, 5), (6, 7)))})
        program = Program(functions)
        self.assertEqual({"main": {"a": ((1, 4), (5, 6))}}, needed(program))
        self.assertEqual((9, ((1, 7),)), initial(program)["main"][1]["a"])
        self.assertEqual(((("main", (4,)), ((7, 8),)),), hopeless(program))

    def test_great_arrays(self):
        body = [("count", "v", 1, SIZE, [("look", "a", ("v", -1)), ("either", [("put", "a", ("v", 0))], []),
                                         ("either", [], [("leave",)])])]
        functions = main_of(body, {"a": (SIZE, ((5, 7), (SIZE - 3, SIZE - 1)))})
        self.assertEqual(({"main": {"a": ((0, 5), (7, SIZE - 3))}}, ()), self.told(functions))
        self.assertEqual((SIZE, ((0, SIZE - 1),)), initial(Program(functions))["main"][1]["a"])
        body[0][4][1] = ("either", [("cut", "a", ("v", 0))], [])
        told = (("main", (0, 0, 0)), ((1, SIZE - 1),))
        self.assertEqual(({"main": {"a": ((0, 5), (7, SIZE - 3))}}, (told,)), self.told(functions))
        body[0][4][1] = ("cut", "a", ("v", 0))
        self.assertEqual(({"main": {"a": ((0, 1),)}}, (told,)), self.told(functions))
        self.assertEqual((SIZE, ((0, 1), (5, 7), (SIZE - 3, SIZE - 1))), initial(Program(functions))["main"][1]["a"])

    def test_every_second_cell(self):
        """More ranges than cells can be used by statements come from the counts."""
        body = [("count", "v", 0, SIZE - 4, [("look", "a", ("v", 2))]), ("look", "a", 0), ("look", "a", SIZE - 1)]
        functions = main_of(body, {"a": (SIZE, ((10, 11), (20, 30)))})
        told = ((0, 1), (2, 10), (11, 20), (30, SIZE - 2), (SIZE - 1, SIZE))
        self.assertEqual(({"main": {"a": told}}, ()), self.told(functions))

    def test_order_of_keys(self):
        functions = {"main": (None, {"z": "plain", "b": "plain"}, [("read", "z"), ("read", "b"), ("call", "f")]),
                     "f": (None, {"y": "plain", "a": "plain"}, [("read", "y"), ("read", "a")])}
        told = needed(Program(functions))
        self.assertEqual([("f", ["a", "y"]), ("main", ["b", "z"])], [(name, list(told[name])) for name in told])
        told["f"].clear()
        self.assertEqual({"a": True, "y": True}, needed(Program(functions))["f"])

    def test_arguments(self):
        for name in ("needed", "initial", "hopeless"):
            self.assertEqual(["program"], list(inspect.signature(getattr(module, name)).parameters))
        self.assertEqual(({"main": {"x": True}}, ()), (needed(program=P), hopeless(program=P)))
        self.assertTrue(is_sound(initial(program=P)))
        self.assertEqual(Program(sample()), P)


class RandomTest(unittest.TestCase):
    def test_by_steps(self):
        compared = needs = 0
        for seed in range(120):
            chance = random.Random(seed)
            maker = SmallMaker(chance, statements=chance.choice([8, 15, 20]), functions=3, names=2, length=3)
            program = Program(maker.functions())
            told = needed(program)
            for name in program.names:
                for word, own in program[name][1].items():
                    for key in [word] if isinstance(own, str) else [(word, cell) for cell in range(own[0])]:
                        is_needed = self.is_needed(told.get(name, {}).get(word), key)
                        found, is_whole = self.is_fresh(program, name, key)
                        self.assertTrue(found == is_needed or (is_needed and not is_whole), (seed, name, key))
                        compared += found
                        needs += is_needed
        self.assertGreater(compared, 60)
        self.assertLess(needs - compared, needs // 4)

    def is_needed(self, told, key):
        if isinstance(key, str) or told is None:
            return told is True
        return any(first <= key[1] < behind for first, behind in told)

    def is_fresh(self, program, name, key):
        """Whether a read of this place comes to it fresh, as far as it is gone through; whether all was."""
        stepper = Fresh(program.functions, [(name, key)], most_steps=50, most_nodes=4000)
        word = key if isinstance(key, str) else key[0]
        if isinstance(key, str):
            rows = [spot for spot, states in stepper.found if states == ("fresh",) and
                    program.statement(spot) == ("read", word)]
        else:
            rows = [spot for spot, cell, states in stepper.looks if states == ("fresh",) and cell == key[1] and
                    program.statement(spot)[1] == word]
        return any(program.owner(spot[0], word) == name for spot in rows), stepper.is_whole

    def test_what_is_needed_is_needed(self):
        """What initial makes needs nothing; with one thing less given it needs just this."""
        compared = 0
        for seed in range(60):
            chance = random.Random(seed)
            maker = (GreatMaker(chance, depth=8) if seed > 40 else
                     SmallMaker(chance, statements=20, functions=3, names=3, length=3))
            try:
                program = Program(maker.functions())
            except OverflowError:
                continue
            mended = initial(program)
            self.assertEqual({}, needed(mended))
            self.assertEqual(mended, initial(mended))
            self.assertEqual(faults(mended), hopeless(program))
            self.assertTrue(set(dict(faults(mended))) <= set(dict(faults(program))))
            for name, words in needed(program).items():
                for word in words:
                    compared += 1
                    functions = mended.functions
                    functions[name][1][word] = program[name][1][word]
                    self.assertEqual({name: {word: words[word]}}, needed(Program(functions)))
        self.assertGreater(compared, 60)


if __name__ == "__main__":
    unittest.main()
