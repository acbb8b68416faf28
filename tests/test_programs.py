"""What a program tells, and what is made of programs: [10] to [12], [15]."""

import copy
import random
import unittest

from surelyset.programs import Program
from tests.support import SIZE, Maker, any_values, due, failure, kept, main_of, sample


def shaken(value):
    """Changes every list and dict in a value, at all depths."""
    if isinstance(value, dict):
        for key in list(value):
            shaken(value[key])
        value.clear()
        value["changed"] = 1
    elif isinstance(value, (list, tuple)):
        for part in value:
            shaken(part)
        if isinstance(value, list):
            value.append("changed")


def all_spots(functions):
    """The spots of kept functions with the statements there, found in another way than the package does."""
    found = []

    def go(name, block, path):
        found.append(((name, path + (len(block),)), None))
        for at in range(len(block)):
            found.append(((name, path + (at,)), block[at]))
            parts = [part for part in block[at] if isinstance(part, tuple)]
            if block[at][0] == "try":
                _, body, handlers, last = block[at]
                parts = [body] + [handler[1] for handler in handlers] + [last] * (last != ())
            if block[at][0] in ("put", "cut", "look"):
                parts = []
            for part, inner in enumerate(parts):
                go(name, inner, path + (at, part))

    for name in functions:
        go(name, functions[name][2], ())
    return sorted(found, key=lambda pair: pair[0])


class ExampleTest(unittest.TestCase):
    def test_of_the_document(self):
        P = Program({"main": (None, {"x": "plain", "y": "given"},
                              [("either", [("set", "x")], [("call", "f")]), ("read", "x")]),
                     "f": ("main", {"z": "plain"}, [("while", [("set", "x")]), ("either", [("fail", "w")], [])])})
        told = [len(P), P.names, P.owner("f", "x"), P.statement(("main", (0, 1, 0))), P.statement(("f", (1, 1, 0)))]
        self.assertEqual(told, [8, ("f", "main"), "main", ("call", "f"), None])
        told = failure(Program, {"main": (None, {}, [("while", [("leave",), ("read", "x")])])})
        self.assertEqual(told, ("InvalidStatement", {"spot": ("main", (0, 0, 1))}))

    def test_other_programs_of_the_document(self):
        C = Program({"main": (None, {"a": (10 ** 30, ())}, [("count", "v", 1, 10 ** 30, [
            ("look", "a", ("v", -1)), ("put", "a", ("v", 0)), ("either", [], [("leave",)])])])})
        self.assertEqual(len(C), 5)
        T = Program({"main": (None, {"x": "plain"}, [
            ("ever", [("try", [("leave",)], [], [("set", "x")])]), ("read", "x")])})
        self.assertEqual(T.statement(("main", (0, 0, 0, 1, 0))), ("set", "x"))


class TellingTest(unittest.TestCase):
    def test_functions_are_kept_as_tuples(self):
        statement = ("try", [("either", [], [("back",)])], [(["w", "a"], [("fail", "a")]), ([], [])], [("back",)])
        functions = {"main": (None, {"z": "given", "a": (9, ((0, 2), (4, 9)))}, [statement, ("while", [])]),
                     "b": ("main", {}, [])}
        told = Program(functions).functions
        self.assertEqual(list(told), ["b", "main"])
        self.assertEqual(list(told["main"][1]), ["a", "z"])
        self.assertEqual(told["main"][1], {"a": (9, ((0, 2), (4, 9))), "z": "given"})
        wanted = ("try", (("either", (), (("back",),)),), ((("a", "w"), (("fail", "a"),)), ((), ())), (("back",),))
        self.assertEqual(told["main"][2], (wanted, ("while", ())))
        self.assertEqual(told["b"], ("main", {}, ()))

    def test_an_empty_last_block_has_no_spots(self):
        program = Program(main_of([("try", [("back",)], [([], [])], [])]))
        paths = [(0,), (0, 0, 0), (0, 0, 1), (0, 1, 0), (1,)]
        self.assertEqual(program.spots, tuple(("main", path) for path in paths))
        program = Program(main_of([("try", [], [([], []), (["w"], [])], [("back",)])]))
        paths = [(0,), (0, 0, 0), (0, 1, 0), (0, 2, 0), (0, 3, 0), (0, 3, 1), (1,)]
        self.assertEqual(program.spots, tuple(("main", path) for path in paths))

    def test_spots_are_ascending(self):
        body = [("while", [("back",)] * 11), ("set", "x")]
        program = Program({**main_of(body, {"x": "plain"}), "z": (None, {}, []), "a": (None, {}, [])})
        self.assertEqual(program.spots[0], ("a", (0,)))
        self.assertEqual(program.spots[-1], ("z", (0,)))
        self.assertEqual(program.spots, tuple(sorted(program.spots)))
        self.assertEqual(len(program.spots), 1 + 12 + 3 + 1)

    def test_at_random(self):
        chance = random.Random(3)
        for _ in range(300):
            functions = Maker(chance).functions()
            if due(functions) is not None:
                continue
            program = Program(functions)
            told = all_spots(kept(functions))
            self.assertEqual(program.functions, kept(functions))
            self.assertEqual(list(program.functions), sorted(functions))
            self.assertEqual(program.spots, tuple(spot for spot, _ in told))
            self.assertEqual(len(program), len([1 for _, statement in told if statement is not None]))
            for spot, statement in told:
                self.assertEqual(program.statement(spot), statement)
            for name in functions:
                self.assertEqual(program[name], kept(functions)[name])

    def test_empty_programs(self):
        program = Program(main_of([]))
        self.assertEqual([len(program), program.names, program.spots], [0, ("main",), (("main", (0,)),)])
        self.assertEqual(program.text, "function main")

    def test_contains(self):
        program = Program(sample())
        for value in any_values():
            self.assertIs(value in program, value.__class__ is str and value in ("main", "f"))
        self.assertNotIn("x", program)

    def test_items(self):
        program = Program(sample())
        self.assertEqual(program["f"], ("main", {"z": "plain"}, kept(sample())["f"][2]))
        for value in any_values():
            if value not in ("main", "f"):
                self.assertEqual(failure(program.__getitem__, value), ("UnknownFunction", {"value": value}))

    def test_equality(self):
        program = Program(sample())
        other = Program({"f": sample()["f"], "main": sample()["main"]})
        self.assertTrue(program == other)
        self.assertFalse(program != other)
        for changed in (program.with_function("g", (None, {}, [])), program.with_function("f", ("main", {}, []))):
            self.assertFalse(program == changed)
            self.assertTrue(program != changed)
        for value in [*any_values(), program.functions, program.text, object()]:
            self.assertFalse(program == value)
            self.assertFalse(value == program)
            self.assertTrue(program != value)
            self.assertTrue(value != program)

    def test_the_order_of_keys_and_words_means_nothing(self):
        one = main_of([("try", [], [(["b", "a"], [])], [])], {"x": "plain", "a": "given"})
        other = main_of([("try", (), ((("a", "b"), ()),), ())], {"a": "given", "x": "plain"})
        self.assertEqual(Program(one), Program(other))
        self.assertEqual(Program(one).text, Program(other).text)

    def test_no_iteration(self):
        program = Program(sample())
        self.assertRaises(TypeError, iter, program)
        self.assertRaises(TypeError, list, program)
        with self.assertRaises(TypeError):
            for _ in program:
                pass

    def test_kinds_of_values(self):
        program = Program(sample())
        self.assertIs(type(program.functions), dict)
        self.assertIs(type(program.functions["f"]), tuple)
        self.assertIs(type(program.functions["f"][1]), dict)
        self.assertIs(type(program["f"]), tuple)
        self.assertIs(type(program.names), tuple)
        self.assertIs(type(program.spots), tuple)
        self.assertIs(type(program.text), str)

    def test_properties_cannot_be_set(self):
        program = Program(sample())
        for name in ("functions", "names", "spots", "text"):
            with self.assertRaises(AttributeError):
                setattr(program, name, 1)


class StatementTest(unittest.TestCase):
    def test_any_value_that_is_no_spot(self):
        program = Program(sample())
        values = [*any_values(), ("main", (2, 0)), ("main", (3,)), ("main", (-1,)), ("main", (0, 2, 0)), ("main", (0, 0)),
                  ("f", (True,)), ("f", (False,)), ("f", (1, False, 0)), ("x", (0,)), ("main", (0,), 1), ("main",),
                  ("main", ((0,),)), ("main", ([0],)), ([], (0,)), ("main", {}), ("main", "0"), ["main", (0,)]]
        for value in values:
            if value == ("main", (0,)) and value.__class__ is tuple and value[1].__class__ is tuple:
                self.assertEqual(program.statement(value)[0], "either")
            else:
                self.assertEqual(failure(program.statement, value), ("UnknownSpot", {"value": value}))

    def test_ends(self):
        program = Program(sample())
        for spot in [("main", (2,)), ("main", (0, 0, 1)), ("main", (0, 1, 1)), ("f", (2,)), ("f", (0, 0, 1))]:
            self.assertIsNone(program.statement(spot))


class OwnerTest(unittest.TestCase):
    def test_owners(self):
        program = Program({"main": (None, {"x": "plain", "a": (5, ()), "y": "given"}, []),
                           "f": ("main", {"x": (2, ()), "z": "plain"}, []), "g": ("f", {"z": "given"}, []),
                           "h": (None, {}, [("count", "v", 0, 1, [])])})
        wanted = {"main": {"x": "main", "a": "main", "y": "main"},
                  "f": {"x": "f", "a": "main", "y": "main", "z": "f"},
                  "g": {"x": "f", "a": "main", "y": "main", "z": "g"}, "h": {}}
        for name in wanted:
            for word in "xayzvfgh":
                if word in wanted[name]:
                    self.assertEqual(program.owner(name, word), wanted[name][word])
                else:
                    self.assertEqual(failure(program.owner, name, word), ("UnknownName", {"value": word}))

    def test_any_values(self):
        program = Program(sample())
        for value in any_values():
            if value not in ("main", "f"):
                self.assertEqual(failure(program.owner, value, value), ("UnknownFunction", {"value": value}))
            if value != "x":
                self.assertEqual(failure(program.owner, "f", value), ("UnknownName", {"value": value}))


class NothingChangesTest(unittest.TestCase):
    def functions(self):
        return {"main": (None, {"x": "plain", "a": (9, ((0, 2), (4, 9)))}, [
            ("try", [("set", "x")], [(["w", "a"], [("fail", "a")])], [("back",)]), ("either", [], [("read", "x")]),
            ("count", "v", 0, 4, [("put", "a", ("v", 1))])]), "f": ("main", {}, [("call", "f")])}

    def test_what_is_passed(self):
        functions = self.functions()
        program, wanted = Program(functions), kept(self.functions())
        shaken(functions)
        self.assertEqual(program.functions, wanted)
        parts = [(name, *function) for name, function in self.functions().items()]
        program = Program.of(*parts)
        shaken(parts)
        self.assertEqual(program.functions, wanted)
        function = self.functions()["f"]
        program = program.with_function("f", function)
        shaken(function)
        self.assertEqual(program.functions, wanted)

    def test_what_is_returned(self):
        program = Program(self.functions())
        before = copy.deepcopy(program.functions)
        text, spots = program.text, program.spots
        for told in (program.functions, program["main"], program["f"], program.names, program.spots,
                     program.statement(("main", (0,))), program.functions["main"][1]):
            shaken(told)
        self.assertEqual(program.functions, before)
        self.assertEqual(program["main"], before["main"])
        self.assertEqual([program.text, program.spots], [text, spots])
        self.assertEqual(program, Program(self.functions()))
        self.assertEqual(program.owner("f", "x"), "main")

    def test_arguments_stay_as_they_are(self):
        functions = self.functions()
        Program(functions).with_function("g", functions["f"])
        self.assertEqual(functions, self.functions())
        self.assertEqual(functions["main"][2][0][2][0][0], ["w", "a"])


class WithFunctionTest(unittest.TestCase):
    def test_new_and_old(self):
        program = Program(sample())
        new = program.with_function("g", ("f", {"q": "plain"}, [("set", "z")]))
        self.assertEqual(new, Program({**sample(), "g": ("f", {"q": "plain"}, [("set", "z")])}))
        self.assertEqual(new.names, ("f", "g", "main"))
        other = program.with_function("f", ("main", {}, []))
        self.assertEqual(other["f"], ("main", {}, ()))
        self.assertEqual(program, Program(sample()))

    def test_errors(self):
        program = Program(sample())
        for value in any_values():
            for name in ("f", "g", "main"):
                functions = {**program.functions, name: value}
                self.assertEqual(failure(program.with_function, name, value), due(functions))
        for name in ("", "Bad", "abcdefghi", "a b"):
            told = failure(program.with_function, name, (None, {}, []))
            self.assertEqual(told, due({**program.functions, name: (None, {}, [])}))
        cases = [("main", ("f", {}, []), ("InvalidFunction", {"name": "f"})),
                 ("main", (None, {"y": "plain"}, []), ("InvalidStatement", {"spot": ("f", (0, 0, 0))})),
                 ("f", ("main", {"x": 1}, []), ("InvalidNames", {"name": "f"})),
                 ("g", (None, {}, [("back",)] * 150), ("TooMany", {"limit": 150}))]
        for name, function, told in cases:
            self.assertEqual(failure(program.with_function, name, function), told)
        self.assertEqual(program, Program(sample()))

    def test_twelve_functions(self):
        program = Program(main_of([]))
        for name in "abcdefghijk":
            program = program.with_function(name, (None, {}, []))
        self.assertEqual(failure(program.with_function, "l", (None, {}, []))[0], "InvalidFunctions")
        self.assertEqual(program.with_function("k", ("a", {}, []))["k"][0], "a")


class WithoutTest(unittest.TestCase):
    def functions(self):
        return {"main": (None, {}, [("call", "f")]), "f": (None, {}, []), "g": ("f", {}, []), "h": ("g", {}, [])}

    def test_some(self):
        program = Program(self.functions())
        self.assertEqual(program.without(), program)
        self.assertEqual(program.without("h").names, ("f", "g", "main"))
        self.assertEqual(program.without("g", "h").names, ("f", "main"))
        self.assertEqual(program.without("h", "g"), program.without("g", "h"))
        self.assertEqual(program, Program(self.functions()))

    def test_errors(self):
        program = Program(self.functions())
        for value in any_values():
            if value not in ("main", "f"):
                for names in ((value,), ("f", value), ("main", value, "f"), (value, "f", "f")):
                    self.assertEqual(failure(program.without, *names), ("UnknownFunction", {"value": value}))
        self.assertEqual(failure(program.without, "h", "h"), ("UnknownFunction", {"value": "h"}))
        self.assertEqual(failure(program.without, "h", "g", "h", "x"), ("UnknownFunction", {"value": "h"}))
        self.assertEqual(failure(program.without, "g"), ("InvalidFunction", {"name": "h"}))
        self.assertEqual(failure(program.without, "f", "g", "h"), ("InvalidStatement", {"spot": ("main", (0,))}))
        rest = {name: kept(self.functions())[name] for name in "fgh"}
        self.assertEqual(failure(program.without, "main"), ("InvalidFunctions", {"value": rest}))
        self.assertEqual(failure(program.without, "main", "f", "h", "g"), ("InvalidFunctions", {"value": {}}))
        self.assertEqual(program, Program(self.functions()))


class OfTest(unittest.TestCase):
    def test_of_functions(self):
        parts = [(name, *function) for name, function in sample().items()]
        self.assertEqual(Program.of(*parts), Program(sample()))
        self.assertEqual(Program.of(("main", None, {}, [])), Program(main_of([])))

    def test_errors(self):
        self.assertEqual(failure(Program.of), ("InvalidFunctions", {"value": {}}))
        cases = [[("f", None, {}, [])], [("main", 1, {}, [])], [("main", None, 1, [])], [("main", None, {}, 1)],
                 [("main", None, {}, []), ("f", "main", {}, [1])], [("main", None, {}, [("back",)] * 151)],
                 [("main", None, {}, []), ("f", "f", {}, [])]]
        for parts in cases:
            functions = {name: tuple(rest) for name, *rest in parts}
            self.assertIsNotNone(due(functions))
            self.assertEqual(failure(Program.of, *parts), due(functions))

    def test_off_an_object(self):
        program = Program(sample())
        self.assertEqual(program.of(("main", None, {}, [])), Program(main_of([])))
        self.assertEqual(program.read("function main"), Program(main_of([])))
        self.assertIs(program.is_word("a"), True)


class WordTest(unittest.TestCase):
    def test_words(self):
        for value in ("a", "z", "main", "abcdefgh", "zzzzzzzz", "in", "end"):
            self.assertIs(Program.is_word(value), True)
        for value in ("", "abcdefghi", "A", "aB", "a1", "1", "a b", " a", "a ", "a\n", "\u00e4", "a_b", "-", b"a"):
            self.assertIs(Program.is_word(value), False)
        for value in any_values():
            right = value in ("a", "main", "f", "x", "plain", "given", "while", "abcdefgh")
            self.assertIs(Program.is_word(value), right)


class ArgumentsTest(unittest.TestCase):
    def test_by_name(self):
        program = Program(functions=sample())
        self.assertEqual(program, Program(sample()))
        self.assertEqual(program.statement(spot=("main", (1,))), ("read", "x"))
        self.assertEqual(program.owner(function="f", name="x"), "main")
        self.assertEqual(program.owner("f", name="z"), "f")
        new = program.with_function(name="g", function=(None, {}, []))
        self.assertEqual(new, program.with_function("g", function=(None, {}, [])))
        self.assertEqual(Program.read(text=program.text), program)
        self.assertIs(Program.is_word(value="a"), True)


class SizesTest(unittest.TestCase):
    def test_large_numbers_take_no_longer(self):
        program = Program(main_of([("count", "v", 0, SIZE, [("put", "a", ("v", 0))])], {"a": (SIZE, ((0, SIZE),))}))
        self.assertEqual(len(program), 2)
        self.assertEqual(program.statement(("main", (0, 0, 0))), ("put", "a", ("v", 0)))


if __name__ == "__main__":
    unittest.main()
