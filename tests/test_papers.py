"""Papers: [20] and [22] of the document."""

import copy
import inspect
import itertools
import random
import unittest

from surelyset import papers as module
from surelyset.papers import is_paper, paper, shown
from surelyset.programs import Program
from surelyset.states import states
from tests.makers import SmallMaker
from tests.support import any_values, broken, failure, main_of, sample
from tests.tabling import Tabling

SIZE = 10 ** 30
P = Program(sample())
S, U, N, K = "set", "unset", "none", "keep"
P_TABLE = {"f": (((U,),), {"done": ((K,), (S,)), "fail w": ((K,), (S,))}),
           "main": (((U,),), {"done": ((K,),), "fail w": ((K,),)})}


def all_places(program):
    """All places of a program with short arrays."""
    found = []
    for name in program.names:
        for word, own in program[name][1].items():
            found += [(name, word)] if isinstance(own, str) else [(name, word, cell) for cell in range(own[0])]
    return found


def line_of(program, name):
    return [] if name is None else [name, *line_of(program, program[name][0])]


def in_line(program, places):
    return all(one[0] in line_of(program, other[0]) or other[0] in line_of(program, one[0])
               for one, other in itertools.combinations(places, 2))


def drawn(chance, **more):
    """A program at random and places in one line, None if there are no names."""
    program = Program(SmallMaker(chance, **more).functions())
    places = all_places(program)
    chance.shuffle(places)
    for many in (3, 2, 1):
        rows = [row for row in itertools.combinations(places[:7], many) if in_line(program, row)]
        if rows and chance.random() < 0.6:
            return program, list(chance.choice(rows))
    return (program, places[:1]) if places else None


class PaperTest(unittest.TestCase):
    def test_example(self):
        self.assertEqual(P_TABLE, paper(P, [("main", "x")]))
        self.assertEqual(["f", "main"], list(paper(P, [("main", "x")])))

    def test_several_owners(self):
        self.assertEqual({"f": (((U, S),), {"done": ((K, K),), "fail w": ((K, K),)}),
                          "main": (((N, S),), {"done": ((K, K),), "fail w": ((K, K),)})},
                         paper(P, (("f", "z"), ("main", "y"))))
        told = paper(P, [("main", "x"), ("f", "z"), ("main", "y")])
        self.assertEqual((((U, U, S),), {"done": ((K, K, K), (S, K, K)), "fail w": ((K, K, K), (S, K, K))}), told["f"])
        self.assertEqual((((U, N, S),), {"done": ((K,) * 3,), "fail w": ((K,) * 3,)}), told["main"])

    def test_order_of_places(self):
        one, other = ("main", "x"), ("f", "z")
        first, second = paper(P, [one, other]), paper(P, [other, one])
        for name in first:
            self.assertEqual(first[name][0], tuple(sorted(row[::-1] for row in second[name][0])))

    def test_a_function_that_is_not_called(self):
        program = Program({**sample(), "g": ("main", {}, [("set", "x"), ("call", "g")]), "h": (None, {"x": "plain"}, [])})
        self.assertEqual(P_TABLE, paper(program, [("main", "x")]))
        self.assertEqual(["f", "main"], list(paper(program, [("h", "x")])))
        self.assertEqual((((N,),), {"done": ((K,),), "fail w": ((K,),)}), paper(program, [("h", "x")])["main"])

    def test_a_function_that_is_not_come_to(self):
        functions = {"main": (None, {"x": "plain"}, [("ever", []), ("call", "f")]), "f": ("main", {}, [])}
        self.assertEqual({"main": (((U,),), {})}, paper(Program(functions), [("main", "x")]))

    def test_hidden_names(self):
        functions = {"main": (None, {"x": "plain"}, [("set", "x"), ("call", "f"), ("drop", "x")]),
                     "f": ("main", {"x": "given"}, [("drop", "x"), ("call", "g")]),
                     "g": ("f", {"x": (3, ((1, 2),))}, [("put", "x", 0)])}
        told = paper(Program(functions), [("main", "x"), ("f", "x"), ("g", "x", 1)])
        self.assertEqual({"f": (((S, S, N),), {"done": ((K, K, K),)}), "g": (((S, U, S),), {"done": ((K, K, K),)}),
                          "main": (((U, N, N),), {"done": ((K, K, K),)})}, told)

    def test_recursion(self):
        functions = {"main": (None, {"x": "plain"}, [("call", "f")]),
                     "f": ("main", {"z": "plain"}, [("either", [("call", "g")], [("drop", "z"), ("call", "f")],
                                                     [("set", "x")]), ("set", "z")]),
                     "g": ("f", {}, [("either", [("drop", "z")], [("set", "z"), ("call", "f")], [("call", "main")])])}
        told = paper(Program(functions), [("main", "x"), ("f", "z")])
        self.assertEqual(((U, N),), told["main"][0])
        self.assertEqual(((U, U),), told["f"][0])
        self.assertEqual(((U, U),), told["g"][0])
        self.assertEqual({"done": ((K, K), (K, S), (K, U), (S, S))}, told["g"][1])
        self.assertEqual({"done": ((K, K), (S, K))}, told["f"][1])

    def test_cells_of_great_arrays(self):
        body = [("count", "v", 1, SIZE, [("either", [], [("put", "a", ("v", -1))])])]
        places = [("main", "a", 0), ("main", "a", SIZE - 1), ("main", "a", SIZE - 2)]
        program = Program(main_of([*body, ("call", "f")], {"a": (SIZE, ((SIZE - 1, SIZE),))}) | {"f": ("main", {}, body)})
        told = paper(program, places)
        self.assertEqual(((S, S, S), (S, S, U), (U, S, S), (U, S, U)), told["f"][0])
        self.assertEqual({"done": ((K, K, K), (K, K, S), (S, K, K), (S, K, S))}, told["f"][1])

    def test_new_dicts(self):
        first = paper(P, [("main", "x")])
        first["f"][1].clear()
        del first["main"]
        self.assertEqual(P_TABLE, paper(P, [("main", "x")]))

    def test_at_random(self):
        compared = 0
        for seed in range(150):
            chance = random.Random(seed)
            made = drawn(chance, statements=chance.choice([10, 20]), functions=3, length=3)
            if made is None:
                continue
            program, places = made
            told = paper(program, places)
            self.assertEqual(Tabling(program.functions, places, {}).closed(), told)
            self.assertEqual(list(told), sorted(told))
            self.assertTrue(all(list(ends) == sorted(ends) for _, ends in told.values()))
            compared += len(told) > 1
        self.assertGreater(compared, 60)


class ClosedTest(unittest.TestCase):
    def check(self, program, places, table):
        """Whether the table is closed, as is_paper and the second reading tell it."""
        plain = Tabling(program.functions, places, table)
        self.assertEqual(not plain.missing, is_paper(program, places, table), (program.functions, places, table))
        return plain

    def test_what_is_left_out(self):
        seen = 0
        for seed in range(60):
            made = drawn(random.Random(seed), statements=15, functions=3, length=3)
            if made is None:
                continue
            program, places = made
            told = paper(program, places)
            self.assertTrue(is_paper(program, places, told))
            for less in self.lesser(told):
                seen += 1
                self.assertFalse(is_paper(program, places, less), (seed, less))
        self.assertGreater(seen, 300)

    def lesser(self, table):
        for name in table:
            yield {key: table[key] for key in table if key != name}
            begins, ends = table[name]
            for row in begins:
                yield {**table, name: (tuple(each for each in begins if each != row), ends)}
            for outcome in ends:
                yield {**table, name: (begins, {key: ends[key] for key in ends if key != outcome})}
                for row in ends[outcome]:
                    less = tuple(each for each in ends[outcome] if each != row)
                    yield {**table, name: (begins, {**ends, outcome: less})}

    def test_more_at_random(self):
        """Tables with more in them are closed just if what follows is in them, and let just what they let."""
        count = {True: 0, False: 0}
        for seed in range(150):
            chance = random.Random(seed)
            made = drawn(chance, statements=12, functions=3, length=3)
            if made is None:
                continue
            program, places = made
            table = paper(program, places)
            for _ in range(3):
                table = self.with_more(chance, program, places, table)
                plain = self.check(program, places, table)
                count[not plain.missing] += 1
                if plain.missing:
                    self.assertEqual(("InvalidPaper", {"value": table}), failure(shown, program, places, table, 7))
                table = plain.closed()
                self.compare_shown(program, places, table, self.check(program, places, table))
        self.assertGreater(count[True], 40)
        self.assertGreater(count[False], 40)

    def with_more(self, chance, program, places, table):
        """The table with one more begin or end."""
        name = chance.choice(program.names)
        around = line_of(program, name)
        begins, ends = table.get(name, ((), {}))
        if chance.random() < 0.5:
            row = tuple(chance.choice([S, U]) if place[0] in around else N for place in places)
            begins = tuple(sorted({*begins, row}))
        else:
            row = tuple(chance.choice([K, S, U]) if place[0] in around[1:] else K for place in places)
            outcome = chance.choice(["done", "fail w", "fail longword", *ends])
            ends = {**ends, outcome: tuple(sorted({*ends.get(outcome, ()), row}))}
        return {name: (begins, ends), **{key: table[key] for key in table if key != name}}

    def compare_shown(self, program, places, table, plain):
        for spot in program.spots:
            self.assertEqual(tuple(sorted(plain.lets.get(spot, ()))), shown(program, places, table, spot))

    def test_least_one_shows_the_states(self):
        for seed in range(80):
            made = drawn(random.Random(seed), statements=15, functions=3, length=3)
            if made is None:
                continue
            program, places = made
            table = paper(program, places)
            for spot in program.spots:
                names = self.names_at(program, spot, places)
                if names is not None:
                    self.assertEqual(states(program, spot, *names), shown(program, places, table, spot))

    def names_at(self, program, spot, places):
        names = []
        for place in places:
            try:
                if program.owner(spot[0], place[1]) != place[0]:
                    return None
            except KeyError:
                return None
            names.append(place[1] if len(place) == 2 else place[1:])
        return names

    def test_unsound_additions(self):
        places = [("main", "x")]
        more = {**P_TABLE, "f": (((S,), (U,)), P_TABLE["f"][1])}
        self.assertTrue(is_paper(P, places, more))
        self.assertEqual(((S,), (U,)), shown(P, places, more, ("f", (0,))))
        ended = {**P_TABLE, "f": (((U,),), {"done": ((K,), (S,), (U,)), "fail w": ((K,), (S,)), "fail u": ((K,),)})}
        self.assertFalse(is_paper(P, places, ended))
        ended["main"] = (((U,),), {**P_TABLE["main"][1], "fail u": ((K,),)})
        self.assertTrue(is_paper(P, places, ended))

    def test_begins_that_are_empty(self):
        """A function that is in the table without begins has no runs."""
        table = {**P_TABLE}
        program = Program({**sample(), "g": ("main", {}, [("call", "g"), ("call", "h")]), "h": ("main", {}, [])})
        for ends in ({}, {"done": ()}, {"done": ((K,), (S,))}):
            table["g"] = ((), ends)
            self.assertTrue(is_paper(program, [("main", "x")], table))
            self.assertEqual((), shown(program, [("main", "x")], table, ("g", (0,))))
            self.assertEqual((), shown(program, [("main", "x")], table, ("h", (0,))))
        table["g"] = (((S,),), {})
        self.assertTrue(is_paper(program, [("main", "x")], table))
        self.assertEqual(((S,),), shown(program, [("main", "x")], table, ("g", (0,))))
        self.assertEqual((), shown(program, [("main", "x")], table, ("g", (1,))))
        table["g"] = (((S,),), {"done": ((K,),)})
        self.assertFalse(is_paper(program, [("main", "x")], table))

    def test_order_of_keys(self):
        turned = {name: (P_TABLE[name][0], dict(reversed(P_TABLE[name][1].items()))) for name in ("main", "f")}
        self.assertTrue(is_paper(P, [("main", "x")], turned))


class FormTest(unittest.TestCase):
    def wrong(self, name, entry):
        table = {**P_TABLE, name: entry}
        self.assertIs(False, is_paper(P, [("main", "x")], table))
        self.assertEqual(("InvalidPaper", {"value": table}), failure(shown, P, [("main", "x")], table, ("f", (0,))))

    def test_any_values(self):
        for value in any_values():
            self.assertIs(False, is_paper(P, [("main", "x")], value))
            self.assertEqual(("InvalidPaper", {"value": value}), failure(shown, P, [("main", "x")], value, value))

    def test_wrong_begins(self):
        ends = P_TABLE["f"][1]
        for begins in ([(U,)], ((U,), [S]), ((U,), (S,)), ((U,), (U,)), ((U, U),), ((),), (U,), ((N,),), ((N,), (U,)),
                       ((True,),), ((K,),), ((None,), (U,)), None, {(U,): True}, ((S,), (U,), ("x",))):
            self.wrong("f", (begins, ends))
        self.wrong("f", [((U,),), ends])
        self.wrong("f", (((U,),), ends, ()))
        self.wrong("f", (((U,),),))

    def test_wrong_ends(self):
        begins = ((U,),)
        right = {"done": ((K,), (S,)), "fail w": ((K,), (S,))}
        for outcome in ("back", "leave", "fail", "fail ", "failw", "fail W", "fail abcdefghi", "fail w w", None, 1, True):
            self.wrong("f", (begins, {**right, outcome: ((K,),)}))
        for rows in ([(K,), (S,)], ((S,), (K,)), ((K,), (K,), (S,)), ((K,), [S]), ((K, K), (S, S)), ((N,),),
                     ((K,), (S,), (None,)), ((K,), (S,), (True,)), (K, S), None, "keep", {}):
            self.wrong("f", (begins, {**right, "done": rows}))
        self.wrong("f", (begins, [("done", ((K,), (S,)))]))
        self.wrong("f", (begins, tuple(right.items())))
        self.wrong("main", (begins, {"done": ((K,), (S,)), "fail w": ((K,),)}))

    def test_wrong_names(self):
        for name in ("g", None, 1, ("f",)):
            self.wrong(name, ((), {}))

    def test_none_and_keep(self):
        places = [("main", "x"), ("f", "z")]
        table = paper(P, places)
        self.assertEqual(((U, N),), table["main"][0])
        for begins in (((U, U),), ((U, N), (U, U)), ((N, N), (U, N))):
            self.assertFalse(is_paper(P, places, {**table, "main": (begins, table["main"][1])}))
        more = {"done": tuple(sorted([*table["f"][1]["done"], (K, S)])), "fail w": table["f"][1]["fail w"]}
        self.assertFalse(is_paper(P, places, {**table, "f": (table["f"][0], more)}))

    def test_broken_at_random(self):
        chance = random.Random(5)
        worths = [*any_values(), *([U], (U,), U, N, K, (K,), ((K,),), "fail u", (((U,),), {}))]
        values = [broken(chance, copy.deepcopy(P_TABLE), chance.choice(worths)) for _ in range(1500)]
        right = sum(is_paper(P, [("main", "x")], value) for value in values)
        self.assertLess(right, 30)

    def test_nothing_is_changed(self):
        places, table = [("main", "x")], copy.deepcopy(P_TABLE)
        paper(P, places)
        is_paper(P, places, table)
        shown(P, places, table, ("f", (0,)))
        self.assertEqual(([("main", "x")], P_TABLE, Program(sample())), (places, table, P))


class ErrorTest(unittest.TestCase):
    def wrong(self, program, places):
        for told in (failure(paper, program, places), failure(is_paper, program, places, 1),
                     failure(shown, program, places, 1, 1)):
            self.assertEqual(("InvalidPlaces", {"value": places}), told)

    def test_any_places(self):
        for value in any_values():
            self.wrong(P, value)
            self.wrong(P, [value])
            self.wrong(P, [("main", "x"), value])
            self.wrong(P, [("main", value)] if value != "x" else [value])
            self.wrong(P, [(value, "x")] if value != "main" else [("x", value)])

    def test_wrong_places(self):
        functions = {**sample(), "g": ("main", {"a": (3, ())}, []), "h": ("g", {"x": "plain"}, [])}
        program = Program(functions)
        x, y, z, cell = ("main", "x"), ("main", "y"), ("f", "z"), ("g", "a", 0)
        for places in ([], [x, x], [x, y, z, ("h", "x")], [z, cell], [x, z, cell], [cell, z], [("g", "a")], [("f", "x")],
                       [("g", "a", 3)], [("g", "a", -1)], [("g", "a", True)], [("g", "a", "v")], [("g", "a", ("v", 1))],
                       [["main", "x"]], [("main", "x", 0)], [("g", "a", 0, 0)], [cell, ("g", "a", 0)], {x: True},
                       [("g", "x")], ("main", "x"), [("nix", "x")], [("h", "a", 0)]):
            self.wrong(program, places)
        for places in ([x], [cell, x], (x, y, z), [("h", "x"), cell, x], [("g", "a", 2), ("g", "a", 1)]):
            self.assertTrue(is_paper(program, places, paper(program, places)))

    def test_order(self):
        self.assertEqual(("InvalidPaper", {"value": {}}), failure(shown, P, [("main", "x")], {}, 1))
        for value in any_values():
            self.assertEqual(("UnknownSpot", {"value": value}) if value != ("main", (0,)) else None,
                             failure(shown, P, [("main", "x")], P_TABLE, value))

    def test_arguments(self):
        names = {"paper": "program places", "is_paper": "program places value", "shown": "program places value spot"}
        for name, want in names.items():
            self.assertEqual(want.split(), list(inspect.signature(getattr(module, name)).parameters))
        self.assertEqual(P_TABLE, paper(places=[("main", "x")], program=P))
        self.assertTrue(is_paper(value=P_TABLE, places=[("main", "x")], program=P))
        self.assertEqual(((U,),), shown(spot=("f", (0,)), value=P_TABLE, places=[("main", "x")], program=P))


if __name__ == "__main__":
    unittest.main()
