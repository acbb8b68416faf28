"""Verdicts of cells, and what looks read: [23] of the document."""

import random
import unittest

from surelyset import cells as module
from surelyset.cells import ranges, read_ranges
from surelyset.programs import Program
from surelyset.states import Checker, faults
from tests.makers import SmallMaker
from tests.plainly import Plainly, TooMuch, as_ranges
from tests.support import any_values, failure, main_of, sample
from tests.test_states import one_of

SIZE = 10 ** 30
FAR = 24


def main_ranges(body, own, path=None):
    """The ranges of an array a of main, at the end of its body if no path is told."""
    return ranges(Program(main_of(body, {"a": own, "x": "plain"})), ("main", (len(body),) if path is None else path), "a")


def main_reads(body, own, path):
    """What a look of main reads."""
    return read_ranges(Program(main_of(body, {"a": own, "x": "plain"})), ("main", path))


class DocumentTest(unittest.TestCase):
    def test_example(self):
        body = [("look", "a", ("v", -1)), ("put", "a", ("v", 0)), ("either", [], [("leave",)])]
        program = Program({"main": (None, {"a": (SIZE, ())}, [("count", "v", 1, SIZE, body)])})
        self.assertEqual([((0, 1, "fault"), (1, SIZE - 1, "sure")),
                          ((0, 1, "fault"), (1, 2, "sure"), (2, SIZE, "fault"))],
                         [read_ranges(program, ("main", (0, 0, 0))), ranges(program, ("main", (1,)), "a")])


class RangesTest(unittest.TestCase):
    def test_given(self):
        own = (10, ((0, 2), (5, 6), (8, 10)))
        told = ((0, 2, "sure"), (2, 5, "fault"), (5, 6, "sure"), (6, 8, "fault"), (8, 10, "sure"))
        self.assertEqual(told, main_ranges([], own))
        self.assertEqual(((0, 10, "never"),), main_ranges([("ever", [])], own))
        self.assertEqual(((0, 1, "sure"),), main_ranges([], (1, ((0, 1),))))
        self.assertEqual(((0, SIZE, "fault"),), main_ranges([], (SIZE, ())))
        many = tuple((cell, cell + 1) for cell in range(0, 4000, 2))
        told = main_ranges([("put", "a", 1), ("cut", "a", SIZE - 1)], (SIZE, many))
        self.assertEqual((3998, (0, 3, "sure"), (3, 4, "fault"), (3999, SIZE, "fault")),
                         (len(told), told[0], told[1], told[-1]))

    def test_single_cells(self):
        own = (SIZE, ((3, 6),))
        body = [("put", "a", 0), ("put", "a", 2), ("cut", "a", 4), ("put", "a", SIZE - 1), one_of(("put", "a", 9))]
        self.assertEqual(((0, 1, "sure"), (1, 2, "fault"), (2, 4, "sure"), (4, 5, "fault"), (5, 6, "sure"),
                          (6, SIZE - 1, "fault"), (SIZE - 1, SIZE, "sure")), main_ranges(body, own))

    def test_counts(self):
        own = (SIZE, ())
        body = [("count", "v", 5, SIZE - 5, [("put", "a", ("v", 2))])]
        self.assertEqual(((0, 7, "fault"), (7, SIZE - 3, "sure"), (SIZE - 3, SIZE, "fault")), main_ranges(body, own))
        for many in (0, 1, 2, 3):
            body = [("count", "v", 5, 5 + many, [("put", "a", ("v", -5))])]
            told = ((0, many, "sure"), (many, SIZE, "fault")) if many else ((0, SIZE, "fault"),)
            self.assertEqual(told, main_ranges(body, own))
        # Each cell is put, then cut two rounds later; the last two stay.
        body = [("count", "v", 2, 12, [("put", "a", ("v", 0)), ("cut", "a", ("v", -2))])]
        self.assertEqual(((0, 10, "fault"), (10, 12, "sure"), (12, SIZE, "fault")), main_ranges(body, own))

    def test_ends_of_rounds(self):
        body = [("count", "v", 0, SIZE, [("put", "a", ("v", 0)), one_of(("leave",)), ("cut", "a", 3)])]
        own = (SIZE, ())
        self.assertEqual(((0, 1, "sure"), (1, SIZE, "fault")), main_ranges(body, own))
        self.assertEqual(((0, SIZE, "fault"),), main_ranges(body, own, (0, 0, 0)))
        self.assertEqual(((0, 1, "sure"), (1, SIZE, "fault")), main_ranges(body, own, (0, 0, 3)))
        body = [("ever", [("count", "v", 0, SIZE - 1, [("put", "a", ("v", 1))]), ("leave",)])]
        self.assertEqual(((0, 1, "fault"), (1, SIZE, "sure")), main_ranges(body, own))
        self.assertEqual(((0, SIZE, "fault"),), main_ranges(body, own, (0, 0, 0)))
        self.assertEqual(((0, 1, "fault"), (1, SIZE, "sure")), main_ranges(body, own, (0, 0, 1)))

    def test_counts_within_counts(self):
        own = (SIZE, ())
        inner = ("count", "w", 0, 4, [("put", "a", ("w", 0)), ("cut", "a", ("v", 0))])
        body = [("count", "v", 2, 7, [inner])]
        self.assertEqual(((0, 4, "sure"), (4, SIZE, "fault")), main_ranges(body, own))
        body = [("count", "v", 2, 4, [inner])]
        # The last round of v cuts the cell 3 again and again, also behind the put of w.
        self.assertEqual(((0, 3, "sure"), (3, SIZE, "fault")), main_ranges(body, own))
        inner = ("count", "w", 0, SIZE, [("put", "a", ("w", 0)), ("cut", "a", ("v", 0))])
        body = [("count", "v", 0, SIZE, [inner])]
        self.assertEqual(((0, SIZE - 1, "sure"), (SIZE - 1, SIZE, "fault")), main_ranges(body, own))

    def test_failures_behind_a_part_of_a_loop(self):
        own = (SIZE, ())
        body = [("try", [("count", "v", 0, SIZE, [("put", "a", ("v", 0)), one_of(("fail", "u")), ("cut", "a", ("v", 0))])],
                 [(["u"], [("put", "a", 7)])], [])]
        self.assertEqual(((0, SIZE, "fault"),), main_ranges(body, own))
        self.assertEqual(((0, 7, "fault"), (7, 8, "sure"), (8, SIZE, "fault")), main_ranges(body, own, (0, 1, 1)))
        body = [("try", [("count", "v", 0, SIZE, [("put", "a", ("v", 0)), one_of(("fail", "u"))]), ("back",)],
                 [([], [])], [])]
        self.assertEqual(((0, 1, "sure"), (1, SIZE, "fault")), main_ranges(body, own))

    def test_arrays_of_functions(self):
        functions = {
            "main": (None, {"a": (SIZE, ()), "b": (5, ())}, [("call", "f"), ("call", "f")]),
            "f": ("main", {"b": (SIZE, ((1, 2),))},
                  [("read", "x"), ("count", "v", 3, SIZE, [("put", "a", ("v", -3)), ("put", "b", ("v", 0))])]),
        }
        functions["f"][1]["x"] = "given"
        program = Program(functions)
        # The array of f begins anew at each call, that of main does not.
        self.assertEqual(((0, 1, "fault"), (1, 2, "sure"), (2, SIZE, "fault")), ranges(program, ("f", (0,)), "b"))
        self.assertEqual(((0, SIZE, "fault"),), ranges(program, ("f", (0,)), "a"))
        self.assertEqual(((0, 1, "fault"), (1, 2, "sure"), (2, 3, "fault"), (3, SIZE, "sure")),
                         ranges(program, ("f", (2,)), "b"))
        self.assertEqual(((0, SIZE - 3, "sure"), (SIZE - 3, SIZE, "fault")), ranges(program, ("main", (1,)), "a"))
        self.assertEqual(((0, 5, "fault"),), ranges(program, ("main", (2,)), "b"))


class ReadRangesTest(unittest.TestCase):
    def test_single_cells(self):
        own = (SIZE, ((3, 4),))
        body = [("look", "a", 0), ("look", "a", 3), ("put", "a", 0), ("look", "a", 0), ("ever", []), ("look", "a", 0)]
        self.assertEqual(((0, 1, "fault"),), main_reads(body, own, (0,)))
        self.assertEqual(((3, 4, "sure"),), main_reads(body, own, (1,)))
        self.assertEqual(((0, 1, "sure"),), main_reads(body, own, (3,)))
        self.assertEqual((), main_reads(body, own, (5,)))

    def test_rounds_that_are_come_to(self):
        own = (SIZE, ())
        for low, high in ((0, 0), (5, 3), (SIZE, -SIZE)):
            self.assertEqual((), main_reads([("count", "v", low, high, [("look", "a", ("v", 0))])], own, (0, 0, 0)))
        body = [("count", "v", 4, SIZE, [("look", "a", ("v", 0)), ("leave",)])]
        self.assertEqual(((4, 5, "fault"),), main_reads(body, own, (0, 0, 0)))
        body = [("count", "v", 4, SIZE, [("next",), ("look", "a", ("v", 0))])]
        self.assertEqual((), main_reads(body, own, (0, 0, 1)))
        body = [("count", "v", 4, SIZE - 4, [("look", "a", ("v", 4))])]
        self.assertEqual(((8, SIZE, "fault"),), main_reads(body, own, (0, 0, 0)))

    def test_parts(self):
        own = (SIZE, ((10, 20),))
        body = [("count", "v", 0, SIZE, [one_of(("put", "a", 15), ("put", "a", 30), ("cut", "a", 12)), ("look", "a", ("v", 0))])]
        self.assertEqual(((0, 10, "fault"), (10, 12, "sure"), (12, 13, "fault"), (13, 20, "sure"), (20, SIZE, "fault")),
                         main_reads(body, own, (0, 0, 1)))
        body = [("put", "a", 5), ("put", "a", 6),
                ("count", "v", 0, SIZE - 9, [("put", "a", ("v", 9)), ("look", "a", ("v", 0))])]
        self.assertEqual(((0, 5, "fault"), (5, 7, "sure"), (7, 9, "fault"), (9, SIZE - 9, "sure")),
                         main_reads(body, own, (2, 0, 1)))

    def test_both_counters(self):
        own = (SIZE, ())
        inner = [("look", "a", ("v", 0)), ("look", "a", ("w", 0)), ("put", "a", ("w", 0))]
        body = [("count", "v", 0, SIZE, [("count", "w", 0, 3, inner)])]
        self.assertEqual(((0, 1, "fault"), (1, 3, "sure"), (3, SIZE, "fault")), main_reads(body, own, (0, 0, 0, 0, 0)))
        self.assertEqual(((0, 3, "fault"),), main_reads(body, own, (0, 0, 0, 0, 1)))
        body = [("count", "v", 0, SIZE, [("put", "a", ("v", 0)), ("count", "w", 0, SIZE, [("look", "a", ("v", 0))])])]
        self.assertEqual(((0, SIZE, "sure"),), main_reads(body, own, (0, 0, 1, 0, 0)))
        inner = [("look", "a", ("v", 0)), ("cut", "a", ("w", 5))]
        body = [("count", "v", 0, SIZE, [("put", "a", ("v", 0)), ("count", "w", 0, 3, inner)])]
        self.assertEqual(((0, 5, "sure"), (5, 7, "fault"), (7, SIZE, "sure")), main_reads(body, own, (0, 0, 1, 0, 0)))

    def test_failures(self):
        own = (SIZE, ())
        inner = [("look", "a", ("v", 0)), one_of(("fail", "u")), ("put", "a", ("v", 0))]
        body = [("while", [("try", [("count", "v", 0, SIZE, inner)], [(["u"], [("look", "a", 0), ("look", "a", 9)])], [])])]
        self.assertEqual(((0, SIZE, "fault"),), main_reads(body, own, (0, 0, 0, 0, 0, 0, 0)))
        body = [("count", "w", 0, 10, [("put", "a", ("w", 0))]), *body]
        self.assertEqual(((0, 10, "sure"), (10, SIZE, "fault")), main_reads(body, own, (1, 0, 0, 0, 0, 0, 0)))
        self.assertEqual(((9, 10, "sure"),), main_reads(body, own, (1, 0, 0, 1, 1)))

    def test_functions(self):
        functions = {
            "main": (None, {"a": (SIZE, ((4, 5),))},
                     [one_of(("call", "f")), ("count", "v", 0, 6, [("put", "a", ("v", 0))]), ("call", "f")]),
            "f": ("main", {"b": (SIZE, ((0, 3),))},
                  [("count", "v", 0, 6, [("look", "a", ("v", 0)), ("look", "b", ("v", 1)), ("put", "b", ("v", 3))])]),
        }
        program = Program(functions)
        self.assertEqual(((0, 4, "fault"), (4, 5, "sure"), (5, 6, "fault")), read_ranges(program, ("f", (0, 0, 0))))
        self.assertEqual(((1, 7, "sure"),), read_ranges(program, ("f", (0, 0, 1))))
        functions["main"][2].pop(0)
        self.assertEqual(((0, 6, "sure"),), read_ranges(Program(functions), ("f", (0, 0, 0))))


class ErrorTest(unittest.TestCase):
    def setUp(self):
        functions = {"main": (None, {"x": "plain", "a": (3, ())}, [("look", "a", 0), ("read", "x"), ("put", "a", 0)]),
                     "f": ("main", {"a": "given", "y": (2, ())}, [])}
        self.program = Program(functions)

    def test_spots(self):
        wrong = [value for value in any_values() if value != ("main", (0,))]
        wrong += [("f", (1,)), ("main", (4,)), ("main", (False,)), "main", ("g", (0,)), ("main", (0, 0, 0))]
        for value in wrong:
            self.assertEqual(("UnknownSpot", {"value": value}), failure(ranges, self.program, value, "nothing"))
            self.assertEqual(("UnknownSpot", {"value": value}), failure(read_ranges, self.program, value))
        for value in (("main", (1,)), ("main", (2,)), ("main", (3,)), ("f", (0,))):
            self.assertEqual(("UnknownSpot", {"value": value}), failure(read_ranges, self.program, value))
        with self.assertRaises(KeyError):
            read_ranges(self.program, None)

    def test_arrays(self):
        for value in [*any_values(), "y", "main", ("a", 0), ["a"]]:
            if value != "a":
                self.assertEqual(("UnknownName", {"value": value}), failure(ranges, self.program, ("main", (0,)), value))
        for value in ("a", "x", ("y", 0)):
            self.assertEqual(("UnknownName", {"value": value}), failure(ranges, self.program, ("f", (0,)), value))
        self.assertEqual(((0, 2, "never"),), ranges(self.program, ("f", (0,)), "y"))
        self.assertEqual(("UnknownName", {"value": "x"}), failure(ranges, Program(sample()), ("main", (0,)), "x"))

    def test_arguments(self):
        self.assertEqual(((0, 3, "fault"),), ranges(array="a", spot=("main", (0,)), program=self.program))
        self.assertEqual(((0, 1, "fault"),), read_ranges(spot=("main", (0,)), program=self.program))
        for function in (ranges, read_ranges):
            self.assertEqual(module.__name__, function.__module__)


class FarMaker(SmallMaker):
    """Programs with arrays of FAR cells that are used near their ends, so that these can be moved apart."""

    def array(self):
        near = [0, 1, 2, 3, FAR - 3, FAR - 2, FAR - 1, FAR]
        ends = sorted(self.chance.sample(near, self.chance.choice([0, 0, 2])))
        return FAR, tuple(zip(ends[::2], ends[1::2]))

    def count(self, body, depth, counts, share):
        free = [word for word in ("i", "j", "k") if word not in counts]
        if not free:
            return "either", [], []
        low, high = self.chance.choice([(0, FAR), (0, FAR), (1, FAR), (0, FAR - 1), (2, FAR - 2), (0, 2), (FAR - 2, FAR),
                                        (FAR - 3, FAR), (FAR, 3)])
        return "count", free[0], low, high, self.block(body, depth + 1, True, {**counts, free[0]: (low, high)}, share)

    def cell(self, length, counts):
        if counts and self.chance.random() < 0.85:
            counter = self.chance.choice(list(counts))
            low, high = counts[counter]
            more = self.chance.choice([-2, -1, 0, 0, 1, 2])
            return counter, 0 if low >= high else max(-low, min(FAR - high, more))
        return self.chance.choice([0, 1, 2, FAR - 2, FAR - 1])


def moved(value):
    """The functions, or the ranges that are told of them, with the far ends of arrays and counts moved."""
    if value.__class__ is int:
        return value if value < FAR // 2 else value + SIZE - FAR
    if value.__class__ in (list, tuple):
        return value.__class__(map(moved, value))
    return {key: moved(value[key]) for key in value} if value.__class__ is dict else value


class RandomTest(unittest.TestCase):
    """Comparisons with the second reading, which goes through all rounds and frames."""

    def test_small_arrays(self):
        compared = 0
        for seed in range(250):
            chance = random.Random(seed + 9000)
            functions = SmallMaker(chance, chance.choice([6, 10, 15, 20]), chance.choice([3, 4, 5]), length=5).functions()
            try:
                plainly = Plainly(functions).run_main()
            except TooMuch:
                continue
            program = Program(functions)
            compared += 1
            for spot in program.spots:
                statement = program.statement(spot)
                if statement and statement[0] == "look":
                    told = as_verdicts(plainly.read_cells(spot, statement))
                    self.assertEqual(told, read_ranges(program, spot), (functions, spot))
                for word, own in program[spot[0]][1].items():
                    if isinstance(own, tuple) and chance.random() < 0.3:
                        told = as_ranges({cell: cell_verdict(plainly, spot, (word, cell)) for cell in range(own[0])})
                        self.assertEqual(told, ranges(program, spot, word), (functions, spot, word))
        self.assertGreater(compared, 220)

    def test_great_arrays(self):
        """What is told of great arrays is what is told of small ones by going through all rounds."""
        compared = 0
        for seed in range(60):
            chance = random.Random(seed)
            functions = FarMaker(chance, chance.choice([6, 10, 15]), chance.choice([3, 4]), chance.choice([0, 1, 2]), 2).functions()
            arrays = [(name, word) for name in functions for word, own in functions[name][1].items() if isinstance(own, tuple)]
            if arrays:
                self.compare(functions, *chance.choice(arrays), chance)
                compared += 1
        self.assertGreater(compared, 30)

    def test_three_cells(self):
        """The same of the states of three cells together."""
        compared = 0
        for seed in range(300):
            chance = random.Random(seed + 300)
            functions = FarMaker(chance, chance.choice([6, 10, 15]), chance.choice([3, 4]), chance.choice([0, 0, 1]), 2).functions()
            arrays = [(name, word) for name in functions for word, own in functions[name][1].items() if isinstance(own, tuple)]
            if not arrays:
                continue
            name, array = chance.choice(arrays)
            cells = chance.sample([0, 1, 2, 3, 9, 10, FAR - 4, FAR - 3, FAR - 2, FAR - 1], 3)
            names = [(array, cell) for cell in cells]
            plainly = Plainly(functions, {(name, (array, cell)) for cell in cells}).run_main()
            small, great = Checker(Program(functions)), Checker(Program(moved(functions)))
            for spot in small.program.spots:
                if spot[0] == name:
                    told = plainly.states(spot, names)
                    self.assertEqual(told, small(spot, names), (functions, spot, names))
                    self.assertEqual(told, great(spot, moved(names)), (functions, spot, names))
                    compared += len(told) > 1
        self.assertGreater(compared, 100)

    def compare(self, functions, name, array, chance):
        small, great = Program(functions), Program(moved(functions))
        self.assertEqual([spot for spot, _ in faults(small)], [spot for spot, _ in faults(great)])
        self.assertEqual([moved(told) for _, told in faults(small)], [told for _, told in faults(great)])
        looks = [spot for spot in small.spots if (small.statement(spot) or "")[:2] == ("look", array)
                 and small.owner(spot[0], array) == name]
        spots = chance.sample([spot for spot in small.spots if spot[0] == name], 1)
        reads = {spot: {} for spot in looks}
        verdicts = {spot: {} for spot in spots}
        for cell in range(FAR):
            plainly = Plainly(functions, {(name, (array, cell))}).run_main()
            for spot in looks:
                reads[spot].update(plainly.read_cells(spot, small.statement(spot)))
            for spot in spots:
                verdicts[spot][cell] = cell_verdict(plainly, spot, (array, cell))
        for spot in looks:
            self.assertEqual(as_verdicts(reads[spot]), read_ranges(small, spot), (functions, spot))
            self.assertEqual(moved(read_ranges(small, spot)), read_ranges(great, spot), (functions, spot))
        for spot in spots:
            self.assertEqual(as_ranges(verdicts[spot]), ranges(small, spot, array), (functions, spot))
            self.assertEqual(moved(ranges(small, spot, array)), ranges(great, spot, array), (functions, spot))


def as_verdicts(is_sure):
    """Ranges with verdicts of a dict from cells to whether they are always set."""
    return as_ranges({cell: "sure" if is_sure[cell] else "fault" for cell in is_sure})


def cell_verdict(plainly, spot, name):
    told = plainly.states(spot, [name])
    if not told:
        return "never"
    return "fault" if ("unset",) in told else "sure"


if __name__ == "__main__":
    unittest.main()
