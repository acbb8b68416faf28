"""What the constructor of Program lets by and what it raises: [10] to [12]."""

import random
import unittest

from surelyset.programs import Program
from tests.support import SIZE, Maker, any_values, broken, due, failure, kept, main_of, nested, sample

NAMES = {"x": "plain", "y": "given", "a": (10, ((0, 2),)), "one": (1, ()), "big": (SIZE, ())}


def spot_of(body, names=None):
    """The spot of the wrong statement in a body of main; None if all are right."""
    told = failure(Program, main_of(body, NAMES if names is None else names))
    if told is None:
        return None
    assert told[0] == "InvalidStatement", told
    assert told[1]["spot"][0] == "main"
    return told[1]["spot"][1]


def wrapped(statement, times, kind="while"):
    """A block with the statement so many loops deeper."""
    block = [statement]
    for _ in range(times):
        block = [(kind, block)]
    return block


class Base(unittest.TestCase):
    def assert_due(self, functions, *told):
        """The error (name, field) is due, for the package and for the second reading."""
        found = failure(Program, functions)
        self.assertEqual(found, due(functions))
        self.assertEqual((found[0], *found[1].values()) if found else (), told)

    def assert_right(self, functions):
        self.assert_due(functions)


class FunctionsTest(Base):
    def test_any_value_for_the_dict(self):
        for value in any_values():
            if value != {"main": 1}:
                self.assert_due(value, "InvalidFunctions", value)

    def test_the_error_has_a_copy(self):
        value = {"f": (None, {}, [])}
        told = failure(Program, value)[1]["value"]
        value["f"][2].append(1)
        self.assertEqual(told, {"f": (None, {}, [])})

    def test_words(self):
        right = (None, {}, [])
        for word in ("a", "abcdefgh", "zzzzzzzz"):
            self.assert_right({"main": right, word: right})
        for word in ("", "abcdefghi", "A", "a1", "a_", "\u00e4", " a", 1, None, True, ("a",)):
            value = {"main": right, word: right}
            self.assert_due(value, "InvalidFunctions", value)

    def test_how_many(self):
        words = list("abcdefghijkl")
        right = (None, {}, [])
        self.assert_right({"main": right, **{word: right for word in words[:11]}})
        value = {"main": right, **{word: right for word in words}}
        self.assert_due(value, "InvalidFunctions", value)
        self.assert_due({}, "InvalidFunctions", {})
        self.assert_due({"f": right}, "InvalidFunctions", {"f": right})


class FunctionTest(Base):
    def test_any_value_for_a_function(self):
        for value in any_values():
            functions = {"main": (None, {}, []), "f": 1, "e": value}
            is_right = value in ((None, {}, []), ("f", {}, []))
            self.assert_due(functions, "InvalidFunction", "f" if is_right else "e")

    def test_any_value_for_a_parent(self):
        for value in any_values():
            functions = {"main": (None, {}, []), "f": (None, {}, []), "g": (value, {}, []), "h": 1}
            if value is None or value in ("main", "f"):
                self.assert_due(functions, "InvalidFunction", "h")
            else:
                self.assert_due(functions, "InvalidFunction", "g")

    def test_main_has_no_parent(self):
        self.assert_due({"main": ("a", {}, []), "a": (None, {}, [])}, "InvalidFunction", "main")
        self.assert_due({"main": ("main", {}, [])}, "InvalidFunction", "main")
        self.assert_due({"main": ("z", {}, [])}, "InvalidFunction", "main")

    def test_a_ring_through_main(self):
        self.assert_due({"main": ("a", {}, []), "a": ("main", {}, [])}, "InvalidFunction", "a")
        self.assert_due({"main": ("z", {}, []), "z": ("main", {}, [])}, "InvalidFunction", "main")

    def test_rings(self):
        right = (None, {}, [])
        self.assert_due({"main": right, "f": ("f", {}, [])}, "InvalidFunction", "f")
        ring = {"main": right, "c": ("d", {}, []), "d": ("e", {}, []), "e": ("c", {}, [])}
        self.assert_due(ring, "InvalidFunction", "c")
        # a and b hang on the ring, they do not stand on it
        self.assert_due({**ring, "b": ("d", {}, []), "a": ("b", {}, [])}, "InvalidFunction", "c")
        self.assert_due({**ring, "a": ("b", {}, []), "b": 1}, "InvalidFunction", "b")

    def test_a_parent_whose_own_value_is_wrong(self):
        self.assert_due({"main": (None, {}, []), "a": ("b", {}, []), "b": None}, "InvalidFunction", "b")
        self.assert_due({"main": (None, {}, []), "b": ("a", {}, []), "a": ()}, "InvalidFunction", "a")
        self.assert_due({"main": 1, "a": ("main", {}, [])}, "InvalidFunction", "main")
        # a value of two parts has no parent, so there is no ring
        self.assert_due({"main": (None, {}, []), "a": ("b", {}, []), "b": ("a", {})}, "InvalidFunction", "b")

    def test_long_lines_of_parents(self):
        words = ["main", *"abcdefghijk"]
        functions = {word: (words[at - 1] if at else None, {}, []) for at, word in enumerate(words)}
        self.assert_right(functions)
        functions["a"] = ("k", {}, [])
        self.assert_due(functions, "InvalidFunction", "a")

    def test_functions_come_ahead_of_names_and_bodies(self):
        functions = {"main": (None, 1, 1), "z": ("y", {}, [])}
        self.assert_due(functions, "InvalidFunction", "z")
        functions = {"main": (None, {}, 1), "z": (None, 1, 1)}
        self.assert_due(functions, "InvalidNames", "z")
        functions = {"main": (None, 1, 1), "a": (None, {}, 1), "b": (None, 2, [])}
        self.assert_due(functions, "InvalidNames", "b")


class NamesTest(Base):
    def assert_names(self, names, is_right):
        functions = {"main": (None, names, []), "z": (None, {"x": 1}, 1)}
        self.assert_due(functions, "InvalidNames", "z" if is_right else "main")

    def test_any_value_for_names(self):
        for value in any_values():
            self.assert_names(value, value == {})

    def test_any_value_for_a_name(self):
        for value in any_values():
            self.assert_names({"x": value}, value in ("plain", "given"))
            self.assert_names({"a": "plain", "x": (value, ())}, value.__class__ is int and 1 <= value <= SIZE)
            self.assert_names({"x": (10, value)}, value == ())
            self.assert_names({"x": (10, (value,))}, False)
            self.assert_names({"x": (10, ((value, 8),))}, value.__class__ is int and 0 <= value < 8)
            self.assert_names({"x": (10, ((1, value),))}, value.__class__ is int and 1 < value < 11)

    def test_words_as_names(self):
        for word in ("a", "abcdefgh", "main", "f", "plain", "set"):
            self.assert_names({word: "plain"}, True)
        for word in ("", "abcdefghi", "X", "x1", 1, None, False, ("x",)):
            self.assert_names({word: "plain"}, False)
            self.assert_names({"x": "plain", word: "given"}, False)

    def test_how_many(self):
        self.assert_names({word: "plain" for word in "abcdefgh"}, True)
        self.assert_names({word: "plain" for word in "abcdefghi"}, False)

    def test_lengths(self):
        for length in (1, 2, SIZE):
            self.assert_names({"a": (length, ())}, True)
        for length in (0, -1, SIZE + 1, 10 ** 399, True, None, "1"):
            self.assert_names({"a": (length, ())}, False)

    def test_ranges(self):
        for ranges in ((), ((0, 1),), ((0, 10),), ((9, 10),), ((0, 1), (2, 3)), ((0, 1), (2, 3), (4, 10))):
            self.assert_names({"a": (10, ranges)}, True)
        for ranges in (((0, 11),), ((-1, 1),), ((1, 1),), ((2, 1),), ((0, 1), (1, 2)), ((0, 3), (2, 4)),
                       ((4, 5), (0, 1)), ((0, 1), (0, 1)), ((10, 10),), ((10, 11),), ((0, True),), ((False, 1),),
                       ((0,),), ((0, 1, 2),), (0, 1), [(0, 1)], ([0, 1],), ((0, 1), 2), ((0, 5), (6, 11)), None):
            self.assert_names({"a": (10, ranges)}, False)
        self.assert_names({"a": (SIZE, ((0, 1), (SIZE - 1, SIZE)))}, True)
        self.assert_names({"a": (SIZE, ((0, 1), (SIZE - 1, SIZE + 1)))}, False)
        self.assert_names({"a": [10, ()]}, False)
        self.assert_names({"a": (10,)}, False)
        self.assert_names({"a": (10, (), ())}, False)


class StatementTest(Base):
    def test_any_value_for_a_body(self):
        for value in any_values():
            if value not in ([], ()):
                spot = ("main", (0,)) if value.__class__ in (list, tuple) else ("main", ())
                self.assert_due(main_of(value), "InvalidStatement", spot)
        self.assert_right(main_of([]))
        self.assert_right(main_of(()))
        self.assert_due({"main": (None, {}, {}), "z": (None, {}, [1])}, "InvalidStatement", ("main", ()))
        self.assert_due({"main": (None, {}, [1]), "a": (None, {}, None)}, "InvalidStatement", ("a", ()))

    def test_any_value_for_a_statement(self):
        for value in any_values():
            right = value in (("back",), ("either", [], []), ("set", "x"))
            self.assertEqual(spot_of([("set", "x"), value]), None if right else (1,), value)
            right = right or value == ("leave",)
            self.assertEqual(spot_of([("back",), ("while", (value,))]), None if right else (1, 0, 0), value)

    def test_lists_are_no_statements(self):
        self.assertEqual(spot_of([["set", "x"]]), (0,))
        self.assertEqual(spot_of(("set", "x")), (0,))

    def test_unknown_words_and_wrong_lengths(self):
        for value in [("sets", "x"), ("Set", "x"), ("",), (b"set", "x"), ("set",), ("set", "x", "y"), ("leave", 1),
                      ("back", None), ("next", "x"), ("fail",), ("fail", "w", "w"), ("call",), ("call", "main", 1),
                      ("put", "a"), ("put", "a", 1, 1), ("either",), ("while",), ("while", [], []), ("ever",),
                      ("ever", [], 1), ("count", "v", 0, 1), ("count", "v", 0, 1, [], []), ("try",), ("try", []),
                      ("try", [], []), ("try", [], [], [], []), ("count", 0, 1, [])]:
            self.assertEqual(spot_of([("ever", [value])]), (0, 0, 0), value)

    def test_any_value_in_each_place(self):
        forms = [("set", None), ("drop", None), ("read", None), ("put", None, 0), ("cut", "a", None),
                 ("look", "a", None), ("look", "a", (None, 0)), ("look", "a", ("v", None)), ("either", [], None),
                 ("either", None, []), ("while", None), ("ever", None), ("count", None, 0, 1, []),
                 ("count", "w", None, 5, []), ("count", "w", 0, None, []), ("count", "w", 0, 1, None),
                 ("fail", None), ("call", None), ("try", None, [], []), ("try", [], None, []), ("try", [], [], None),
                 ("try", [], [None], []), ("try", [], [(None, [])], []), ("try", [], [([], None)], []),
                 ("try", [], [([None], [])], []), ("try", [], [(["w", None], [])], [])]
        for form in forms:
            for value in any_values():
                statement = filled(form, value)
                functions = main_of([("count", "v", 0, 3, [statement])], NAMES)
                self.assertEqual(failure(Program, functions), due(functions), statement)


def filled(form, value):
    """The form with the value in place of None."""
    if form is None:
        return value
    if isinstance(form, (list, tuple)):
        return form.__class__([filled(part, value) for part in form])
    return form


class SeeingTest(Base):
    def test_names_where_arrays_are_asked_and_the_other_way_around(self):
        for word in ("set", "drop", "read"):
            self.assertEqual(spot_of([(word, "x"), (word, "y"), (word, "a")]), (2,))
            self.assertEqual(spot_of([(word, "none")]), (0,))
        for word in ("put", "cut", "look"):
            self.assertEqual(spot_of([(word, "a", 0), (word, "x", 0)]), (1,))
            self.assertEqual(spot_of([(word, "none", 0)]), (0,))

    def test_names_of_functions_around(self):
        functions = {"main": (None, {"x": "plain"}, []), "f": ("main", {"y": "plain"}, []),
                     "g": ("f", {"z": "plain"}, [("set", "x"), ("set", "y"), ("set", "z")])}
        self.assert_right(functions)
        functions["main"] = (None, {"x": "plain"}, [("set", "y")])
        self.assert_due(functions, "InvalidStatement", ("main", (0,)))
        functions["h"] = (None, {}, [("set", "x")])
        self.assert_due(functions, "InvalidStatement", ("h", (0,)))

    def test_names_that_are_hidden(self):
        outer = {"x": "plain", "a": (10, ())}
        for name, body, spot in [("g", [("set", "a"), ("set", "x")], 1), ("g", [("put", "x", 1), ("put", "a", 1)], 1),
                                 ("f", [("set", "x"), ("put", "a", 9), ("set", "a")], 2),
                                 ("g", [("put", "x", 2)], 0), ("g", [("put", "x", 1)], None)]:
            functions = {"main": (None, outer, []), "f": ("main", {}, []),
                         "g": ("f", {"x": (2, ()), "a": "given"}, [])}
            functions[name] = (*functions[name][:2], body)
            if spot is None:
                self.assert_right(functions)
            else:
                self.assert_due(functions, "InvalidStatement", (name, (spot,)))
        functions = {"main": (None, outer, []), "f": ("main", {"a": (3, ())}, [("put", "a", 3)])}
        self.assert_due(functions, "InvalidStatement", ("f", (0,)))

    def test_functions_and_names_are_told_apart(self):
        self.assert_right({"main": (None, {"f": "plain", "main": "given"}, [("set", "f"), ("call", "f")]),
                           "f": ("main", {}, [("count", "g", 0, 1, [])]), "g": ("f", {"g": "plain"}, [])})


class BlocksTest(Base):
    def test_how_many_blocks_an_either_has(self):
        for many in range(9):
            statement = ("either", *([] for _ in range(many)))
            self.assertEqual(spot_of([statement]), None if 2 <= many <= 6 else (0,))

    def test_tuples_are_taken_for_lists(self):
        body = (("either", (("set", "x"),), ()), ("try", (), (((), ()), (("b", "a"), ())), ()),
                ("count", "v", 0, 1, ()), ("while", ()), ("ever", ()))
        self.assert_right(main_of(body, NAMES))

    def test_depth(self):
        for kind in ("while", "ever"):
            self.assertEqual(spot_of(wrapped(("set", "x"), 7, kind)), None)
            self.assertEqual(spot_of(wrapped((kind, []), 7, kind)), (0,) * 15)
            self.assertEqual(spot_of(wrapped((kind, [1]), 7, kind)), (0,) * 15)
            self.assertEqual(spot_of(wrapped(1, 7, kind)), (0,) * 15)
        for statement in [("either", [], []), ("count", "v", 0, 1, []), ("try", [], [], []), ("while", [])]:
            self.assertEqual(spot_of(wrapped(statement, 6)), None)
            self.assertEqual(spot_of(wrapped(statement, 7)), (0,) * 15)
        self.assertEqual(spot_of([("set", "x"), *wrapped(("back",), 8), 1]), (1, *(0,) * 14))

    def test_depth_of_each_kind(self):
        for kind in ("count", "either", "try", "handler", "last"):
            block = []
            for counter in "bcdefgh":
                block = [{"count": ("count", counter, 0, 1, block), "either": ("either", [], block),
                          "try": ("try", block, [], []), "handler": ("try", [], [([], block)], []),
                          "last": ("try", [], [], block)}[kind]]
            self.assertEqual(spot_of(block), None)
            part = 0 if kind in ("count", "try") else 1
            inner = ("while", block)
            wanted = (0, 0, *(0, part) * 6, 0)
            self.assertEqual(spot_of([inner]), wanted)

    def test_blocks_of_the_try(self):
        self.assertEqual(spot_of([("try", [1], [], [])]), (0, 0, 0))
        self.assertEqual(spot_of([("try", [], [], [("back",), 1])]), (0, 1, 1))
        self.assertEqual(spot_of([("try", [], [([], []), ([], [1])], [1])]), (0, 2, 0))
        self.assertEqual(spot_of([("try", [], [([], []), ([], [])], [1])]), (0, 3, 0))
        self.assertEqual(spot_of([("try", [1], [([], [1])], 1)]), (0,))
        self.assertEqual(spot_of([("try", [1], [([], 1)], [])]), (0,))
        self.assertEqual(spot_of([("try", [1], [[[], []]], [])]), (0,))

    def test_how_many_handlers(self):
        self.assertEqual(spot_of([("try", [], [([], [])] * 16, [])]), None)
        self.assertEqual(spot_of([("try", [], [([], [])] * 17, [])]), (0,))

    def test_words_of_handlers(self):
        for words in ([], ["w"], ["w", "a"], ["a", "w"], ("c", "b", "a"), ["abcdefgh"]):
            self.assertEqual(spot_of([("try", [], [(words, []), (words, [])], [])]), None)
        for words in (["w", "w"], ["a", "w", "a"], [1], ["w", None], [[]], [""], ["abcdefghi"], "w", None, {"w": 1}):
            self.assertEqual(spot_of([("try", [], [(["w"], []), (words, [])], [])]), (0,))

    def test_failures(self):
        for word in ("w", "main", "abcdefgh"):
            self.assertEqual(spot_of([("fail", word)]), None)
        for word in ("", "abcdefghi", "W", "a b", 1, None, ["w"]):
            self.assertEqual(spot_of([("fail", word)]), (0,))

    def test_reading_order(self):
        bad = ("while", [1])
        self.assertEqual(spot_of([bad, 1]), (0, 0, 0))
        self.assertEqual(spot_of([("either", [("set", "x")], [1], [1]), 1]), (0, 1, 0))
        self.assertEqual(spot_of([("either", [bad], [1], 1), 1]), (0,))
        self.assertEqual(spot_of([("either", [("while", [("set", "x"), 2])], [1])]), (0, 0, 0, 0, 1))
        self.assert_due({"main": (None, {}, [1]), "f": (None, {}, [bad])}, "InvalidStatement", ("f", (0, 0, 0)))


class LoopsTest(Base):
    def test_leave_and_next(self):
        for word in ("leave", "next"):
            jump = (word,)
            self.assertEqual(spot_of([jump]), (0,))
            self.assertEqual(spot_of([("either", [], [jump])]), (0, 1, 0))
            self.assertEqual(spot_of([("try", [], [], [jump])]), (0, 1, 0))
            for loop in [("while", [jump]), ("ever", [jump]), ("count", "v", 0, 0, [jump])]:
                self.assertEqual(spot_of([loop]), None)
                self.assertEqual(spot_of([loop, jump]), (1,))
            inner = ("try", [("either", [jump], [])], [([], [jump])], [jump])
            self.assertEqual(spot_of([("while", [inner])]), None)
            self.assertEqual(spot_of([("back",)]), None)
            functions = {"main": (None, {}, [("while", [("call", "f")])]), "f": ("main", {}, [jump])}
            self.assert_due(functions, "InvalidStatement", ("f", (0,)))

    def test_counters(self):
        self.assertEqual(spot_of([("count", "v", 0, 1, []), ("count", "v", 0, 1, [])]), None)
        self.assertEqual(spot_of([("count", "v", 0, 1, [("count", "w", 0, 1, [])])]), None)
        self.assertEqual(spot_of([("count", "v", 0, 1, [("while", [("count", "v", 0, 1, [])])])]), (0, 0, 0, 0, 0))
        for word in ("x", "y", "a", "", "abcdefghi", "V", 1, None, ["v"]):
            self.assertEqual(spot_of([("count", word, 0, 1, [])]), (0,))
        functions = {"main": (None, {"x": "plain"}, [("count", "z", 0, 1, [("call", "f")])]),
                     "f": ("main", {"z": "plain"}, [("count", "x", 0, 1, [])])}
        self.assert_due(functions, "InvalidStatement", ("f", (0,)))
        functions["f"] = ("main", {"z": "plain"}, [])
        self.assert_right(functions)
        # counters are not known in functions that are called
        functions["f"] = ("main", {"q": (5, ())}, [("put", "q", ("z", 0))])
        self.assert_due(functions, "InvalidStatement", ("f", (0,)))

    def test_bounds(self):
        for low, high in [(0, 0), (-SIZE, SIZE), (SIZE, -SIZE), (5, -5)]:
            self.assertEqual(spot_of([("count", "v", low, high, [])]), None)
        for bad in (SIZE + 1, -SIZE - 1, True, False, None, "1", 10 ** 399):
            self.assertEqual(spot_of([("count", "v", bad, 0, [])]), (0,))
            self.assertEqual(spot_of([("count", "v", 0, bad, [])]), (0,))


class CellsTest(Base):
    def test_integers(self):
        for word in ("put", "cut", "look"):
            for array, length in (("one", 1), ("a", 10), ("big", SIZE)):
                for cell in (0, length - 1):
                    self.assertEqual(spot_of([(word, array, cell)]), None)
                for cell in (-1, length, True, False, None, "0", (0,), (0, 0), [0]):
                    self.assertEqual(spot_of([(word, array, cell)]), (0,))

    def used(self, low, high, more, array="a"):
        """Whether the cell v + more may be used in a count from low to high."""
        return spot_of([("count", "v", low, high, [("put", array, ("v", more))])]) is None

    def test_counters_at_both_ends(self):
        self.assertTrue(self.used(0, 10, 0))
        self.assertFalse(self.used(0, 10, 1))
        self.assertFalse(self.used(0, 10, -1))
        self.assertTrue(self.used(1, 10, -1))
        self.assertTrue(self.used(0, 9, 1))
        self.assertFalse(self.used(0, 11, 0))
        self.assertFalse(self.used(-1, 10, 0))
        self.assertTrue(self.used(-5, 5, 5))
        self.assertTrue(self.used(100, 110, -100))
        self.assertFalse(self.used(100, 110, -101))
        self.assertTrue(self.used(0, SIZE, 0, "big"))
        self.assertFalse(self.used(0, SIZE, 1, "big"))
        self.assertTrue(self.used(-SIZE, 0, SIZE, "big"))
        self.assertFalse(self.used(-SIZE, 1, SIZE, "big"))
        self.assertTrue(self.used(0, 1, 0, "one"))
        self.assertFalse(self.used(0, 2, 0, "one"))

    def test_counts_without_rounds(self):
        for low, high in [(0, 0), (5, 5), (100, 0), (SIZE, -SIZE)]:
            for more in (0, 1, -SIZE, SIZE):
                self.assertTrue(self.used(low, high, more))
            for more in (SIZE + 1, -SIZE - 1, True, None, "1", 10 ** 399):
                self.assertFalse(self.used(low, high, more))

    def test_which_counters(self):
        put = ("put", "a", ("v", 0))
        self.assertEqual(spot_of([put]), (0,))
        self.assertEqual(spot_of([("count", "v", 0, 1, []), put]), (1,))
        self.assertEqual(spot_of([("count", "w", 0, 1, [put])]), (0, 0, 0))
        inner = [("while", [("either", [put], [("count", "w", 5, 10, [put, ("put", "a", ("w", -5))])])])]
        self.assertEqual(spot_of([("count", "v", 0, 10, inner)]), None)
        self.assertEqual(spot_of([("count", "v", 0, 11, inner)]), (0, 0, 0, 0, 0, 0, 0))
        for cell in (["v", 0], ("v",), ("v", 0, 0), ("v", None), ("v", True), (0, "v"), (["v"], 0), "v", ("x", 0)):
            self.assertEqual(spot_of([("count", "v", 0, 1, [("put", "a", cell)])]), (0, 0, 0))


class CallsTest(Base):
    TREE = {"main": None, "f": "main", "g": "f", "h": "f", "k": "g", "i": "main", "j": "i", "o": None, "p": "o"}
    LET = {
        "main": "main f i o", "f": "f g h main i o", "g": "g k f h main i o", "h": "h f g main i o",
        "k": "k g f h main i o", "i": "i j main f o", "j": "j i main f o", "o": "o p main", "p": "p o main",
    }

    def test_who_calls_whom(self):
        for name in self.TREE:
            for called in self.TREE:
                functions = {word: (self.TREE[word], {}, []) for word in self.TREE}
                functions[name] = (self.TREE[name], {}, [("call", called)])
                if called in self.LET[name].split():
                    self.assert_right(functions)
                else:
                    self.assert_due(functions, "InvalidStatement", (name, (0,)))

    def test_what_is_no_function(self):
        for value in any_values():
            self.assertEqual(spot_of([("call", value)]), None if value == "main" else (0,))


class TooManyTest(Base):
    def test_how_many_statements(self):
        self.assert_right(main_of([("set", "x")] * 150, {"x": "plain"}))
        self.assert_due(main_of([("set", "x")] * 151, {"x": "plain"}), "TooMany", 150)
        half = [("either", [("set", "x")] * 24, [("try", [("set", "x")] * 23, [([], [("back",)])], [("set", "x")])]),
                *[("drop", "x")] * 24]
        functions = {"main": (None, {"x": "plain"}, half), "f": ("main", {}, half[:1] + [("set", "x")] * 24)}
        self.assertEqual(len(Program(functions)), 150)
        functions["f"][2].append(("back",))
        self.assert_due(functions, "TooMany", 150)

    def test_wrong_statements_come_first(self):
        body = [("set", "x")] * 5000
        self.assert_due(main_of(body, {"x": "plain"}), "TooMany", 150)
        self.assert_due(main_of([*body, 1], {"x": "plain"}), "InvalidStatement", ("main", (5000,)))
        functions = {"main": (None, {"x": "plain"}, 1), "a": (None, {"x": "plain"}, body)}
        self.assert_due(functions, "InvalidStatement", ("main", ()))


class ChanceTest(Base):
    def test_right_programs(self):
        chance = random.Random(1)
        for _ in range(400):
            functions = Maker(chance).functions()
            found = due(functions)
            self.assertEqual(failure(Program, functions), found)
            if found is None:
                self.assertEqual(Program(functions).functions, kept(functions))

    def test_broken_programs(self):
        chance = random.Random(2)
        values = any_values()
        seen = set()
        for _ in range(6000):
            functions = Maker(chance).functions() if chance.random() < 0.9 else sample()
            functions = broken(chance, functions, chance.choice(values))
            found = due(functions)
            self.assertEqual(failure(Program, functions), found)
            seen.add(found[0] if found else None)
        wanted = {None, "InvalidFunctions", "InvalidFunction", "InvalidNames", "InvalidStatement", "TooMany"}
        self.assertEqual(seen, wanted)

    def test_values_stay_as_they_are(self):
        value = main_of([("try", [], [(["b", "a"], [nested(30, "list")])], [])])
        before = repr(value)
        failure(Program, value)
        self.assertEqual(repr(value), before)


if __name__ == "__main__":
    unittest.main()
