"""Settings at spots: [26] of the document."""

import copy
import inspect
import itertools
import random
import unittest

from surelyset import cuts as module
from surelyset.cuts import bound, bound_for, cheapest, is_choice, settled
from surelyset.programs import Program
from surelyset.states import faults
from tests.framing import FrameStepper, OneNameMaker
from tests.support import any_values, failure, main_of, sample

SIZE = 10 ** 30
P = Program(sample())
WAY = (("main", (0,)), ("main", (0, 1, 0)), ("main", (0, 1, 1)), ("main", (1,)))


def own_names(program):
    return [(name, word) for name in program.names for word in program[name][1]
            if isinstance(program[name][1][word], str)]


def is_free(program, spot):
    """Whether a spot does not stand in a finally block."""
    path = spot[1]
    for at in range(0, len(path) - 1, 2):
        statement = program.statement((spot[0], path[:at + 1]))
        if statement[0] == "try" and path[at + 1] == len(statement[2]) + 1:
            return False
    return True


def free_spots(program, name):
    return [spot for spot in program.spots if spot[0] == name and is_free(program, spot)]


def spots_of(*paths):
    return [("main", path) for path in paths]


class ChoiceTest(unittest.TestCase):
    def test_example(self):
        prices = {("main", (0,)): 2, ("main", (0, 1, 0)): 1, ("main", (1,)): 2}
        self.assertEqual((1, (("main", (0, 1, 0)),)), cheapest(P, "main", "x", prices))
        self.assertIsNone(cheapest(P, "main", "x", {("main", (0, 0, 0)): 1}))
        self.assertEqual(2, bound(P, "main", "x", {("main", (1,)): 2}, ((2, WAY),)))

    def test_no_prices(self):
        self.assertIsNone(cheapest(P, "main", "x", {}))
        self.assertIsNone(bound_for(P, "main", "x", {}))
        for name, word in (("main", "y"), ("f", "z")):
            self.assertEqual((0, ()), cheapest(P, name, word, {}))
            self.assertEqual((), bound_for(P, name, word, {}))
            self.assertEqual(0, bound(P, name, word, {}, ()))
        self.assertEqual((0, ()), cheapest(P, "main", "y", {("main", (0,)): 1}))

    def test_great_prices(self):
        prices = {spot: SIZE for spot in free_spots(P, "main")}
        cost, spots = cheapest(P, "main", "x", prices)
        self.assertEqual((SIZE, 1), (cost, len(spots)))
        self.assertEqual(SIZE, bound(P, "main", "x", prices, bound_for(P, "main", "x", prices)))
        prices[("main", (0, 1, 1))] = SIZE - 1
        self.assertEqual((SIZE - 1, (("main", (0, 1, 1)),)), cheapest(P, "main", "x", prices))

    def test_two_branches(self):
        body = [("either", [], []), ("read", "x")]
        program = Program(main_of(body, {"x": "plain"}))
        prices = dict(zip(spots_of((0, 0, 0), (0, 1, 0), (1,)), (3, 4, 8)))
        self.assertEqual((7, tuple(spots_of((0, 0, 0), (0, 1, 0)))), cheapest(program, "main", "x", prices))
        prices[("main", (1,))] = 6
        self.assertEqual((6, (("main", (1,)),)), cheapest(program, "main", "x", prices))
        told = bound_for(program, "main", "x", prices)
        self.assertEqual(6, sum(amount for amount, _ in told))
        self.assertEqual(6, bound(program, "main", "x", prices, told))

    def test_ends_of_blocks_and_loops(self):
        body = [("set", "x"), ("count", "v", 0, SIZE, [("read", "x"), ("drop", "x")]), ("back",)]
        program = Program(main_of(body, {"x": "plain"}))
        prices = dict(zip(spots_of((1,), (1, 0, 0), (1, 0, 2), (0,)), (1, 5, 4, 1)))
        self.assertEqual((4, (("main", (1, 0, 2)),)), cheapest(program, "main", "x", prices))
        self.assertTrue(is_choice(program, "main", "x", [("main", (1, 0, 2))]))
        self.assertFalse(is_choice(program, "main", "x", [("main", (1, 0, 1))]))
        for many in (0, 1):
            body[1] = ("count", "v", 0, many, body[1][4])
            self.assertEqual((0, ()), cheapest(Program(main_of(body, {"x": "plain"})), "main", "x", prices))

    def test_handlers(self):
        body = [("try", [("set", "x"), ("either", [("drop", "x"), ("fail", "w")], [])], [(["w"], [("read", "x")])], []),
                ("read", "x")]
        program = Program(main_of(body, {"x": "plain"}))
        prices = dict(zip(spots_of((0, 0, 1, 0, 1), (0, 1, 0), (1,)), (2, 3, 1)))
        self.assertEqual((2, (("main", (0, 0, 1, 0, 1)),)), cheapest(program, "main", "x", prices))
        del prices[("main", (0, 0, 1, 0, 1))]
        self.assertEqual((3, (("main", (0, 1, 0)),)), cheapest(program, "main", "x", prices))
        self.assertIsNone(cheapest(program, "main", "x", {("main", (1,)): 1}))

    def test_no_choice_at_all(self):
        functions = {"main": (None, {"x": "given"}, [("call", "f")]), "f": ("main", {}, [("drop", "x"), ("read", "x")])}
        program = Program(functions)
        prices = {spot: 1 for spot in free_spots(program, "main")}
        self.assertIsNone(cheapest(program, "main", "x", prices))
        self.assertIsNone(bound_for(program, "main", "x", prices))
        self.assertFalse(is_choice(program, "main", "x", list(prices)))
        body = [("try", [("drop", "x")], [], [("read", "x")])]
        program = Program(main_of(body, {"x": "given"}))
        self.assertEqual((1, (("main", (0, 0, 1)),)), cheapest(program, "main", "x", {("main", (0, 0, 1)): 1}))
        body = [("try", [], [], [("drop", "x"), ("read", "x")])]
        program = Program(main_of(body, {"x": "given"}))
        self.assertIsNone(cheapest(program, "main", "x", {spot: 1 for spot in free_spots(program, "main")}))

    def test_spots_that_are_not_free(self):
        body = [("try", [], [([], [])], [("read", "x")])]
        program = Program(main_of(body, {"x": "plain"}))
        for path, free in (((0,), 1), ((0, 0, 0), 1), ((0, 1, 0), 1), ((0, 2, 0), 0), ((0, 2, 1), 0), ((1,), 1)):
            spot = ("main", path)
            self.assertEqual(None if free else ("InvalidPrices", {"value": {spot: 1}}),
                             failure(cheapest, program, "main", "x", {spot: 1}))
            self.assertEqual(None if free else ("UnknownSpot", {"value": spot}),
                             failure(is_choice, program, "main", "x", [spot]))

    def test_finally_blocks_within_blocks(self):
        """A block within a finally block is not free either; a try within a handler is."""
        body = [("try", [], [], [("either", [("set", "x")], []), ("try", [("read", "x")], [], [])])]
        program = Program(main_of(body, {"x": "plain"}))
        self.assertEqual(spots_of((0,), (0, 0, 0), (1,)),
                         [spot for spot in program.spots if failure(is_choice, program, "main", "x", [spot]) is None])
        self.assertEqual((1, (("main", (0, 0, 0)),)), cheapest(program, "main", "x", {("main", (0, 0, 0)): 1}))

    def test_functions_that_call_themselves(self):
        """Each frame has its own name."""
        functions = {"main": (None, {}, [("call", "f")]),
                     "f": (None, {"x": "plain"}, [("set", "x"), ("either", [("call", "f")], [("call", "g")]), ("read", "x")]),
                     "g": ("f", {}, [("either", [("drop", "x")], [("call", "f")]), ("read", "x")])}
        program = Program(functions)
        prices = {spot: 1 for spot in free_spots(program, "f")}
        self.assertIsNone(cheapest(program, "f", "x", prices))
        functions["g"] = ("f", {}, [("either", [("drop", "x")], [("call", "f"), ("read", "x")])])
        self.assertEqual((1, (("f", (1, 1, 1)),)), cheapest(Program(functions), "f", "x", {("f", (1, 1, 1)): 1}))
        self.assertEqual((3, (("f", (2,)),)), cheapest(Program(functions), "f", "x", {("f", (2,)): 3, ("f", (1, 1, 0)): 1}))

    def test_names_of_the_same_word(self):
        functions = {"main": (None, {"x": "plain"}, [("call", "f"), ("read", "x")]),
                     "f": ("main", {"x": "plain"}, [("read", "x")])}
        program = Program(functions)
        self.assertTrue(is_choice(program, "main", "x", [("main", (1,))]))
        self.assertTrue(is_choice(program, "f", "x", [("f", (0,))]))
        self.assertEqual((((("f", (0,))), None),), faults(settled(program, "main", "x", [("main", (0,))])))

    def test_function_that_is_not_called(self):
        functions = {**main_of([]), "f": (None, {"x": "plain"}, [("read", "x")])}
        self.assertEqual((0, ()), cheapest(Program(functions), "f", "x", {("f", (0,)): 1}))
        self.assertEqual((), bound_for(Program(functions), "f", "x", {}))
        self.assertIsNone(bound(Program(functions), "f", "x", {("f", (0,)): 1}, ((1, (("f", (0,)),)),)))


class SettledTest(unittest.TestCase):
    def test_several_in_one_block(self):
        body = [("read", "x"), ("either", [], [("read", "x")]), ("read", "x")]
        program = Program(main_of(body, {"x": "plain"}))
        one = ("set", "x")
        told = settled(program, "main", "x", spots_of((3,), (0,), (1, 1, 1), (1, 0, 0), (1,)))
        want = [one, ("read", "x"), one, ("either", [one], [("read", "x"), one]), ("read", "x"), one]
        self.assertEqual(Program(main_of(want, {"x": "plain"})), told)
        self.assertEqual(program, settled(program, "main", "x", []))
        self.assertEqual(program, settled(program, "main", "x", ()))

    def test_trys_and_loops(self):
        body = [("try", [("while", [])], [(["w"], []), ([], [("ever", [])])], [("read", "x")])]
        program = Program(main_of(body, {"x": "plain"}))
        one = ("set", "x")
        spots = spots_of((0, 0, 0), (0, 0, 0, 0, 0), (0, 1, 0), (0, 2, 0, 0, 0), (0, 2, 1), (1,))
        want = [("try", [one, ("while", [one])], [(["w"], [one]), ([], [("ever", [one]), one])], [("read", "x")]), one]
        self.assertEqual(Program(main_of(want, {"x": "plain"})), settled(program, "main", "x", spots))
        self.assertTrue(is_choice(program, "main", "x", spots))

    def test_too_many(self):
        """With 150 statements there may be further settings for is_choice, not for settled."""
        program = Program(main_of([("read", "x")] * 150, {"x": "plain"}))
        self.assertTrue(is_choice(program, "main", "x", spots_of((0,))))
        self.assertFalse(is_choice(program, "main", "x", spots_of((1,), (7,))))
        self.assertTrue(is_choice(program, "main", "x", spots_of(*[(at,) for at in range(151)])))
        self.assertEqual(("TooMany", {"limit": 150}), failure(settled, program, "main", "x", spots_of((0,))))
        self.assertEqual(program, settled(program, "main", "x", []))
        self.assertEqual((5, (("main", (0,)),)), cheapest(program, "main", "x", {("main", (0,)): 5, ("main", (9,)): 1}))


class RandomTest(unittest.TestCase):
    def drawn(self, seed, **more):
        chance = random.Random(seed)
        maker = OneNameMaker(chance, statements=chance.choice([8, 12, 20]), functions=3, names=1, **more)
        return chance, Program(maker.functions())

    def test_all_choices(self):
        """The cheapest choice is the one among all choices, and there is a bound with its cost."""
        seen = {"none": 0, "nothing": 0, "some": 0}
        for seed in range(250):
            chance, program = self.drawn(seed)
            for name, word in own_names(program):
                spots = free_spots(program, name)
                spots = chance.sample(spots, min(len(spots), 7))
                prices = {spot: chance.choice([1, 2, 3, SIZE]) for spot in spots}
                told = cheapest(program, name, word, prices)
                best = min((sum(prices[spot] for spot in some) for many in range(len(spots) + 1)
                            for some in itertools.combinations(spots, many)
                            if is_choice(program, name, word, some)), default=None)
                kind = "none" if best is None else "some" if best else "nothing"
                seen[kind] += 1
                self.assertEqual(best, None if told is None else told[0], (seed, name))
                shows = bound_for(program, name, word, prices)
                self.assertEqual(told is None, shows is None)
                if told is not None:
                    self.assertEqual(told[1], tuple(sorted(told[1])))
                    self.assertEqual(best, sum(prices[spot] for spot in told[1]))
                    self.assertTrue(is_choice(program, name, word, list(told[1])))
                    self.assertEqual(best, bound(program, name, word, prices, shows))
        self.assertGreater(min(seen.values()), 25)

    def test_choices_by_faults(self):
        compared = 0
        for seed in range(120):
            chance, program = self.drawn(seed)
            for name, word in own_names(program):
                spots = free_spots(program, name)
                spots = chance.sample(spots, chance.randrange(min(len(spots), 5) + 1))
                mended = settled(program, name, word, spots)
                reads = [spot for spot, _ in faults(mended) if mended.owner(spot[0], word) == name]
                self.assertEqual(not reads, is_choice(program, name, word, spots))
                compared += bool(reads)
        self.assertGreater(compared, 30)

    def test_unset_ways(self):
        """Unset ways, told by bounds, are those that the second reading finds by all runs."""
        right = wrong = 0
        for seed in range(250):
            chance, program = self.drawn(seed, depth=chance_depth(seed))
            for name, word in own_names(program):
                plain = FrameStepper(program.functions, name, word, most_steps=120, most_nodes=6000)
                if not plain.is_whole:
                    continue
                spots = free_spots(program, name)
                prices = {spot: SIZE for spot in spots}
                for way in self.some_ways(chance, spots, plain):
                    is_way = plain.is_unset_way(way)
                    told = bound(program, name, word, prices, ((3, way),))
                    self.assertEqual(3 if is_way else None, told, (seed, name, way))
                    right, wrong = right + is_way, wrong + (not is_way)
                if plain.is_hopeless:
                    self.assertIsNone(cheapest(program, name, word, prices))
        self.assertGreater(right, 200)
        self.assertGreater(wrong, 2000)

    def some_ways(self, chance, spots, plain):
        """All short ways among a few spots, and longer ones along what runs do."""
        some = chance.sample(spots, min(len(spots), 8))
        found = [(spot,) for spot in spots] + list(itertools.product(some, repeat=2))
        after = {}
        for one, other in plain.pairs:
            after.setdefault(one, []).append(other)
        for start in sorted(plain.starts):
            for _ in range(6):
                way = [start]
                for _ in range(12):
                    if way[-1] in plain.lasts:
                        found.append(tuple(way))
                        found.append((*way[:-1], chance.choice(spots), way[-1]))
                        found.append(tuple(way[1:] or way))
                    if way[-1] not in after:
                        break
                    way.append(chance.choice(sorted(after[way[-1]])))
        return found


def chance_depth(seed):
    return 3 if seed % 2 else 4


class BoundTest(unittest.TestCase):
    def setUp(self):
        self.program = Program(main_of([("while", [("either", [], [])]), ("read", "x"), ("read", "x")], {"x": "plain"}))
        self.ways = [tuple(spots_of((0,), (1,))), tuple(spots_of((0,), (1,), (2,))),
                     tuple(spots_of((0,), (0, 0, 0), (0, 0, 0, 0, 0), (0, 0, 1), (0, 0, 0), (0, 0, 0, 1, 0), (0, 0, 1), (1,)))]
        self.prices = dict(zip(spots_of((0,), (0, 0, 0), (0, 0, 1), (1,)), (7, 2, 5, 6)))

    def told(self, *value):
        return bound(self.program, "main", "x", self.prices, value)

    def test_sums(self):
        one, two, three = self.ways
        self.assertEqual([0, 6, 6, 4, 1], [self.told(), self.told((6, one)), self.told((2, one), (4, two)),
                                           self.told((2, three), (2, one)), self.told((1, one))])
        for value in (((7, one),), ((3, one), (4, two)), ((3, three),), ((1, three), (2, three)), ((1, one),) * 7):
            self.assertIsNone(self.told(*value))
        self.assertEqual(2, self.told((1, three), (1, three)))
        self.assertEqual(6, self.told(*[(1, one)] * 6))

    def test_a_spot_several_times_counts_once(self):
        self.assertEqual(2, self.told((2, self.ways[2])))

    def test_ways_without_prices(self):
        del self.prices[("main", (0,))], self.prices[("main", (1,))]
        one, two, three = self.ways
        self.assertIsNone(self.told((1, one)))
        self.assertIsNone(self.told((1, two)))
        self.assertEqual(2, self.told((2, three)))
        self.assertIsNone(self.told((1, three), (1, one)))

    def test_bent(self):
        one, two, three = self.ways
        for value in (((0, one),), ((-1, one),), ((True, one),), ((1.0, one),), ((1, list(one)),), [(1, one)], ([1, one],),
                      ((1, ()),), ((1,),), ((1, one, 1),), (1, one), ((1, one[::-1]),), ((1, one[:1]),), ((1, three[1:]),),
                      ((1, two + two[-1:]),), ((1, (("main", [0]), one[1])),), ((1, (["main", (0,)], one[1])),),
                      ((1, (("main", (False,)), one[1])),), ((1, three[:3] + three[4:]),), ((1, one), (1, ())),
                      ((10 ** 399, one),), (one,), ((one, 1),), {(1, one): 1}, ((1, (("main", (3,)),)),)):
            self.assertIsNone(bound(self.program, "main", "x", self.prices, value), value)
        self.assertEqual(1, self.told((1, one)))

    def test_any_values(self):
        for value in any_values():
            self.assertEqual(0 if value == () else None, bound(self.program, "main", "x", self.prices, value))
            for wrong in ((value,), ((value, self.ways[0]),), ((1, value),), ((1, (value,)),), ((1, (*self.ways[0], value)),)):
                is_right = value.__class__ is int and value in (1,) and wrong[0] == (value, self.ways[0])
                self.assertEqual(1 if is_right else None, bound(self.program, "main", "x", self.prices, wrong))


class ErrorTest(unittest.TestCase):
    def calls(self, program, function, name, more):
        return [failure(cheapest, program, function, name, more), failure(bound_for, program, function, name, more),
                failure(bound, program, function, name, more, 1)]

    def spot_calls(self, program, function, name, spots):
        return [failure(is_choice, program, function, name, spots), failure(settled, program, function, name, spots)]

    def test_any_functions_and_names(self):
        for value in any_values():
            if value not in ("main", "f"):
                want = [("UnknownFunction", {"value": value})]
                self.assertEqual(want * 3, self.calls(P, value, value, value))
                self.assertEqual(want * 2, self.spot_calls(P, value, value, [value]))
            if value != "x":
                want = [("UnknownName", {"value": value})]
                self.assertEqual(want * 3, self.calls(P, "main", value, value))
                self.assertEqual(want * 2, self.spot_calls(P, "main", value, [value]))

    def test_names_of_others(self):
        program = Program({**sample(), "g": ("main", {"a": (3, ())}, [])})
        for function, name in (("f", "x"), ("main", "z"), ("g", "a"), ("g", "x"), ("main", "a")):
            self.assertEqual([("UnknownName", {"value": name})] * 3, self.calls(program, function, name, 1))

    def test_any_prices(self):
        right = ("main", (0,))
        for value in any_values():
            if value != {}:
                self.assertEqual([("InvalidPrices", {"value": value})] * 3, self.calls(P, "main", "x", value))
            is_price = value.__class__ is int and value > 0 and value < 10 ** 31
            prices = {("main", (1,)): 1, right: value}
            want = None if is_price else ("InvalidPrices", {"value": prices})
            self.assertEqual([want] * 3, self.calls(P, "main", "x", prices))
        for spot in (("f", (0,)), ("main", (2, 0)), ("main", (3,)), ("main", ()), ("main", (True,)), "main", 0, None, ()):
            self.assertEqual([("InvalidPrices", {"value": {right: 1, spot: 1}})] * 3,
                             self.calls(P, "main", "x", {right: 1, spot: 1}))
        for price, is_right in ((SIZE, 1), (SIZE + 1, 0), (0, 0), (1, 1)):
            self.assertEqual(bool(is_right), failure(cheapest, P, "main", "x", {right: price}) is None)

    def test_any_spots(self):
        right = ("main", (0,))
        for value in any_values():
            want = [("UnknownSpot", {"value": value})]
            self.assertEqual(want * 2, self.spot_calls(P, "main", "x", [("main", (1,)), right, value, 7]))
        for spots in ([right, right], [("main", (1,)), right, right, ("nix",)], (right, right)):
            self.assertEqual([("UnknownSpot", {"value": right})] * 2, self.spot_calls(P, "main", "x", spots))
        self.assertEqual([("UnknownSpot", {"value": ("f", (0,))})] * 2, self.spot_calls(P, "main", "x", [("f", (0,))]))

    def test_nothing_is_changed(self):
        prices = {("main", (0,)): 2, ("main", (1,)): 1}
        spots = [("main", (1,)), ("main", (0,))]
        before = copy.deepcopy((prices, spots))
        cheapest(P, "main", "x", prices)
        bound_for(P, "main", "x", prices)
        is_choice(P, "main", "x", spots)
        settled(P, "main", "x", spots)
        self.assertEqual((before, Program(sample())), ((prices, spots), P))

    def test_arguments(self):
        names = {"cheapest": "program function name prices", "bound_for": "program function name prices",
                 "bound": "program function name prices value", "is_choice": "program function name spots",
                 "settled": "program function name spots"}
        for name, want in names.items():
            self.assertEqual(want.split(), list(inspect.signature(getattr(module, name)).parameters))
        prices = {("main", (1,)): 2}
        self.assertEqual((2, (("main", (1,)),)), cheapest(prices=prices, name="x", function="main", program=P))
        self.assertEqual(2, bound(value=((2, WAY),), prices=prices, name="x", function="main", program=P))
        self.assertEqual(2, sum(amount for amount, _ in bound_for(prices=prices, name="x", function="main", program=P)))
        self.assertTrue(is_choice(spots=[("main", (1,))], name="x", function="main", program=P))
        self.assertEqual(9, len(settled(spots=[("main", (1,))], name="x", function="main", program=P)))


if __name__ == "__main__":
    unittest.main()
