"""Programs as great as they may be get their answers."""

import random
import unittest

from surelyset.books import GuardedLoggedBook
from surelyset.cells import ranges, read_ranges
from surelyset.cuts import bound, bound_for, cheapest, is_choice, settled
from surelyset.ends import ends, outcomes
from surelyset.initial import hopeless, initial, needed
from surelyset.papers import is_paper, paper, shown
from surelyset.plain import growth, without_finally
from surelyset.profiles import profile
from surelyset.programs import Program
from surelyset.running import run
from surelyset.states import Checker, faults, states
from surelyset.ways import fault_way, least_steps, led, way
from tests.makers import SmallMaker
from tests.support import Body

SIZE = 10 ** 30
S, U = "set", "unset"
WORDS = ("main", *"bcdefghijkl")


def lined():
    """12 functions in a line, each with 8 names, and 150 statements, 8 blocks deep."""
    functions = {}
    for at, name in enumerate(WORDS):
        own = {f"p{name[0]}{letter}": "plain" for letter in "abcdefg"}
        own[f"r{name[0]}"] = (SIZE, ((at, at + 1),))
        functions[name] = (WORDS[at - 1] if at else None, own, lined_body(name[0], WORDS[at + 1:at + 2]))
    deep = []
    for _ in range(7):
        deep = [("while", deep)]
    functions["main"][2].extend(deep)
    return Program(functions)


def lined_body(letter, called):
    """12 statements, one less if nothing is called."""
    first, second, array = f"p{letter}a", f"p{letter}b", f"r{letter}"
    inner = [("put", array, ("v", 1)), *[("call", name) for name in called], ("look", array, ("v", 0))]
    return [("set", first), ("either", [("set", second)], []), ("count", "v", 0, SIZE - 1, inner),
            ("read", first), ("read", second), ("either", [("drop", first)], [("back",)])]


class GreatMaker(SmallMaker):
    """Programs at random with 12 functions of 8 names, great arrays and counts, blocks up to 8 deep."""

    def functions(self):
        made = {}
        for name in WORDS:
            parent = None if name == "main" else self.chance.choice([None, *made, *made, *list(made)[-2:] * 2])
            made[name] = (parent, self.names(), [])
        for name in WORDS:
            share = self.chance.choice([1, 3, 8, 8, 20, 30])
            made[name][2].extend(self.block(Body(made, name), 1, False, {}, share))
        for name in WORDS[1:]:
            caller = made[made[name][0] or "main"][2]
            caller.insert(self.chance.randrange(len(caller) // 2 + 1), ("either", [("call", name)], []))
        return made

    def names(self):
        kinds = ["plain", "given", (SIZE, ()), (SIZE, ((5, 7),))]
        return {word: self.chance.choice(kinds) for word in self.chance.sample("mnopqrstuvwxyz", 8)}

    def count(self, body, depth, counts, share):
        free = [word for word in ("ca", "cb", "cc", "cd", "ce", "cf", "cg") if word not in counts]
        low, high = self.chance.choice([(0, SIZE), (1, SIZE), (0, SIZE - 3), (3, 10), (SIZE - 5, SIZE), (10, SIZE - 10)])
        return "count", free[0], low, high, self.block(body, depth + 1, True, {**counts, free[0]: (low, high)}, share)

    def cell(self, length, counts):
        if counts and self.chance.random() < 0.9:
            counter = self.chance.choice(list(counts))
            low, high = counts[counter]
            return counter, max(-low, min(SIZE - high, self.chance.choice([-3, -2, -1, 0, 1, 2, 3])))
        return self.chance.choice([0, 1, 5, SIZE - 1])


class LineTest(unittest.TestCase):
    def setUp(self):
        self.program = lined()

    def test_size(self):
        self.assertEqual((12, 150), (len(self.program.names), len(self.program)))
        self.assertEqual(15, max(len(path) for _, path in self.program.spots))

    def test_faults(self):
        want = []
        for name in sorted(WORDS):
            if name == "l":
                want.append(((name, (2, 0, 1)), ((0, 1),)))
            elif name != "main":
                want.append(((name, (2, 0, 2)), ((0, 1),)))
            want.append(((name, (4,)), None))
        self.assertEqual(tuple(want), faults(self.program))

    def test_states(self):
        self.assertEqual(((S, S, S), (S, S, U), (U, S, S), (U, S, U)),
                         states(self.program, ("l", (0,)), "pmb", ("rm", 1), ("rm", 7)))
        self.assertEqual(((S, S), (U, S)), states(self.program, ("main", (3,)), "pmb", ("rm", SIZE - 1)))
        self.assertEqual(((S, U, S), (U, U, S)), states(self.program, ("l", (3,)), "pgb", ("rl", 0), ("rl", SIZE - 1)))

    def test_cells(self):
        self.assertEqual(((0, 1, "fault"), (1, SIZE, "sure")), ranges(self.program, ("l", (4,)), "rl"))
        self.assertEqual(((0, 2, "sure"), (2, SIZE, "fault")), ranges(self.program, ("l", (4,)), "rm"))
        self.assertEqual(((0, 1, "fault"), (1, SIZE - 1, "sure")), read_ranges(self.program, ("b", (2, 0, 2))))
        self.assertEqual(((0, SIZE - 1, "sure"),), read_ranges(self.program, ("main", (2, 0, 2))))

    def test_ends(self):
        self.assertEqual({"done": (("keep",) * 3,)}, ends(self.program, "l", "pmb", ("rk", 5), "pka"))
        self.assertEqual([("done",)] * 12, [outcomes(self.program, name) for name in WORDS])


    def test_papers(self):
        places = [("b", "pba"), ("main", "rm", 7), ("l", "rl", 0)]
        told = paper(self.program, places)
        self.assertEqual(sorted(WORDS), list(told))
        self.assertEqual(((S, S, U), (S, U, U)), told["l"][0])
        self.assertTrue(is_paper(self.program, places, told))
        self.assertEqual(((S, S, U), (S, U, U)), shown(self.program, places, told, ("l", (0,))))
        self.assertEqual((("none", S, "none"),), shown(self.program, places, told, ("main", (3,))))

    def test_ways(self):
        spot = ("l", (2, 0, 1))
        told = fault_way(self.program, spot, 0)
        states_there, steps, counters = led(self.program, spot, told, ("rl", 0), "pmb", ("rm", 1))
        self.assertEqual((U, U, S), states_there)
        self.assertEqual(({"v": 0}, 12), (counters, len(told[1])))
        self.assertEqual(steps, least_steps(self.program, spot, (U, U), ("rl", 0), "pmb"))
        told = way(self.program, ("main", (3,)), (S, S, U), ("rm", SIZE - 1), "pmb", ("rm", 0))
        self.assertIsNone(told)
        told = way(self.program, ("main", (3,)), (S, S, S), ("rm", SIZE - 1), "pmb", ("rm", 0))
        self.assertEqual(10 ** 300, led(self.program, ("main", (3,)), told)[1])

    def test_initial(self):
        told = needed(self.program)
        self.assertEqual({"pmb": True}, told["main"])
        self.assertEqual({"pbb": True, "rb": ((0, 1),)}, told["b"])
        self.assertEqual(((0, 1), (11, 12)), initial(self.program)["l"][1]["rl"][1])
        self.assertEqual((), hopeless(self.program))


    def test_cuts(self):
        """x is read behind an either in which it may be set: a setting ahead of it or in the other block."""
        prices = {spot: SIZE for spot in self.program.spots if spot[0] == "c"}
        cost, spots = cheapest(self.program, "c", "pcb", prices)
        self.assertEqual((SIZE, 1), (cost, len(spots)))
        self.assertEqual(SIZE, bound(self.program, "c", "pcb", prices, bound_for(self.program, "c", "pcb", prices)))
        self.assertTrue(is_choice(self.program, "c", "pcb", spots))
        prices[("c", (1, 1, 0))] = 1
        self.assertEqual((1, (("c", (1, 1, 0)),)), cheapest(self.program, "c", "pcb", prices))
        with self.assertRaises(OverflowError):
            settled(self.program, "c", "pcb", spots)

    def test_profiles(self):
        told = profile(self.program, "b")
        self.assertEqual({"done": {f"pm{letter}": "keep" for letter in "abcdefg"}}, told.outcomes)
        self.assertEqual({f"pm{letter}": "none" for letter in "abcdefg"}, told.reads)
        self.assertEqual(77, len(profile(self.program, "l").names))

    def test_books(self):
        book = GuardedLoggedBook(self.program, ("main", "rm"), *[(name, f"p{name[0]}a") for name in WORDS])
        for _ in range(20):
            with book.trial():
                book["main"] = book["main"]
            book.attempt(lambda held: held.edit(self.program))
        self.assertEqual((20, 80), (book.undoable, len(book.log)))
        book.undo(20)
        with self.assertRaises(ValueError):
            GuardedLoggedBook(self.program, ("l", "rl"))


class FinallyTest(unittest.TestCase):
    """Programs with many finally blocks, in one another, and many failures."""

    def nested(self, deep, word="drop"):
        fails = [("either", *[[("fail", letter)] for letter in "abcde"], [])]
        body = [("call", "f")] * 3
        for _ in range(deep):
            last = [("call", "g"), ("read", "x"), ("either", [("back",)], [("set", "x")], [(word, "x")])]
            body = [("try", [*body, ("call", "f")], [], last)]
        return Program({"main": (None, {"x": "plain"}, [("drop", "x"), *body, ("read", "x")]), "f": (None, {}, fails),
                        "g": ("main", {}, [("either", [("set", "x")], [("call", "f")], [(word, "x")])])})

    def test_cuts(self):
        program = self.nested(6)
        spots = [spot for spot in program.spots if spot[0] == "main" and not any(spot[1][1::2])]
        prices = {spot: 7 for spot in spots}
        self.assertIsNone(cheapest(program, "main", "x", prices))
        self.assertIsNone(bound_for(program, "main", "x", prices))
        self.assertFalse(is_choice(program, "main", "x", spots))
        # Without the drops in the finally blocks there is a choice.
        program = self.nested(6, "read")
        prices[("main", (1,))] = SIZE
        told = cheapest(program, "main", "x", prices)
        self.assertEqual((7, 1), (told[0], len(told[1])))
        self.assertEqual(7, bound(program, "main", "x", prices, bound_for(program, "main", "x", prices)))
        self.assertTrue(is_choice(program, "main", "x", told[1]))

    def test_growth(self):
        # A try with a failure behind, and a copy of a finally block of six statements for each way out of it.
        self.assertEqual(6 + 4 + 2 + 6 + 6 * 6 + 5, growth(self.nested(1)))
        self.assertEqual(59 + 5 * (3 + 7 * 6 + 6), growth(self.nested(6)))
        self.assertEqual(59, len(without_finally(self.nested(1))[0]))
        with self.assertRaises(OverflowError):
            without_finally(self.nested(6))


class DeepTest(unittest.TestCase):
    def test_counts_seven_deep(self):
        """Each round of each count uses a cell of its own in the innermost block."""
        many = SIZE - 9
        counters = ["ca", "cb", "cc", "cd", "ce", "cf", "cg"]
        # The last one that uses a cell counts: the innermost counter, or a count in its last round.
        body = [("put" if at % 3 else "cut", "a", (counter, at)) for at, counter in enumerate(counters)]
        for counter in counters[::-1]:
            body = [("count", counter, 0, many, body)]
        program = Program({"main": (None, {"a": (SIZE, ())}, body)})
        self.assertEqual(((0, 1, "fault"), (1, 3, "sure"), (3, 4, "fault"), (4, 6, "sure"), (6, many, "fault"),
                          (many, many + 2, "sure"), (many + 2, many + 3, "fault"), (many + 3, many + 5, "sure"),
                          (many + 5, SIZE, "fault")), ranges(program, ("main", (1,)), "a"))
        self.assertEqual(((U, S, U),), states(program, ("main", (1,)), ("a", 3), ("a", 4), ("a", many - 1)))


    def test_ways_six_deep(self):
        """Each round of each count may use a cell of its own in the innermost block."""
        many = SIZE - 9
        counters = ["ca", "cb", "cc", "cd", "ce", "cf"]
        body = [("either", [("put" if at else "cut", "a", (counter, at))], []) for at, counter in enumerate(counters)]
        for counter in counters[::-1]:
            body = [("count", counter, 0, many, body)]
        program = Program({"main": (None, {"a": (SIZE, ())}, body)})
        least = 6
        for _ in range(6):
            least = 1 + many * (1 + least)
        for wanted, more in ((U, U), 0), ((S, U), 1), ((U, S), 1), ((S, S), 2):
            names = [("a", 3), ("a", many - 1)]
            told = way(program, ("main", (1,)), wanted, *names)
            self.assertEqual((wanted, least + more, {}), led(program, ("main", (1,)), told, *names))


class RandomTest(unittest.TestCase):
    def test_great_programs(self):
        compared = 0
        for seed in range(40):
            chance = random.Random(seed)
            try:
                program = Program(GreatMaker(chance, depth=8).functions())
            except OverflowError:
                continue
            compared += 1
            self.compare(program, chance)
        self.assertGreater(compared, 10)

    def compare(self, program, chance):
        """What is told of one name and of three fits together, and what runs read is told."""
        checker = Checker(program)
        told = faults(program)
        for spot in chance.sample(program.spots, 10):
            seen = [name for word in "mnopqrstuvwxyz" for name in self.seen(program, spot[0], word)]
            names = chance.sample(seen, 3)
            rows = checker(spot, names)
            for row in rows[:2]:
                told_way = way(program, spot, row, *names)
                self.assertEqual((row, least_steps(program, spot, row, *names)), led(program, spot, told_way, *names)[:2])
            for at, name in enumerate(names):
                self.assertEqual(checker(spot, [name]), tuple(sorted({(row[at],) for row in rows})))
        for _ in range(30):
            choices = [chance.choice([0, 1]) for _ in range(200)]
            for spot, is_set in run(program, choices, most=2000).events:
                statement = program.statement(spot)
                if statement[0] == "read":
                    self.assertIn((S if is_set else U,), checker(spot, [statement[1]]))
                self.assertTrue(is_set or spot in dict(told))

    def seen(self, program, function, word):
        """The names, or a few cells, that a function sees under a word."""
        try:
            own = program[program.owner(function, word)][1][word]
        except KeyError:
            return []
        return [word] if isinstance(own, str) else [(word, cell) for cell in (0, 1, 5, SIZE - 1)]


if __name__ == "__main__":
    unittest.main()
