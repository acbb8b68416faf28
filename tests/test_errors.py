"""Limits and errors: [2] and [3]."""

import unittest

from surelyset import errors, limits
from surelyset.programs import Program
from tests.support import any_values, nested

BASES = {
    ValueError: [("InvalidFunctions", "value"), ("InvalidFunction", "name"), ("InvalidNames", "name"),
                 ("InvalidStatement", "spot"), ("InvalidChoice", "index"), ("InvalidPlaces", "value"),
                 ("InvalidPaper", "value"), ("InvalidPrices", "value"), ("InvalidProfile", "value"),
                 ("InvalidText", "line"), ("InvalidStates", "value"), ("NotClosed", "spot"), ("Faulty", "spot")],
    KeyError: [("UnknownFunction", "value"), ("UnknownSpot", "value"), ("UnknownName", "value")],
    IndexError: [("OutOfRange", "value")],
    OverflowError: [("TooMany", "limit")],
}


def with_fields():
    """Each error class that has a field, with this field's name."""
    return [(getattr(errors, name), field) for base in BASES for name, field in BASES[base]]


class LimitsTest(unittest.TestCase):
    def test_values(self):
        told = [limits.MAX_FUNCTIONS, limits.MAX_NAMES, limits.MAX_STATEMENTS, limits.MAX_DEPTH]
        self.assertEqual(told, [12, 8, 150, 8])
        self.assertEqual(limits.MAX_SIZE, 10 ** 30)
        self.assertEqual(limits.MOST_STEPS, 10 ** 300)

    def test_class_values_of_programs(self):
        for name in ("MAX_FUNCTIONS", "MAX_NAMES", "MAX_STATEMENTS", "MAX_DEPTH", "MAX_SIZE"):
            self.assertEqual(getattr(Program, name), getattr(limits, name))
            self.assertIs(type(getattr(Program, name)), int)


class ErrorsTest(unittest.TestCase):
    def test_bases(self):
        for base in BASES:
            for name, _ in BASES[base]:
                self.assertEqual(getattr(errors, name).__bases__, (base,), name)
        self.assertEqual(errors.InTrial.__bases__, (RuntimeError,))

    def test_all_are_listed(self):
        defined = {name for name in vars(errors) if name[0].isupper()}
        self.assertEqual(defined, {name for base in BASES for name, _ in BASES[base]} | {"InTrial"})

    def test_fields_by_position_and_by_name(self):
        for made, field in with_fields():
            for value in any_values():
                for error in (made(value), made(**{field: value})):
                    self.assertEqual(getattr(error, field), value)
                    self.assertIs(type(getattr(error, field)), type(value))
                    self.assertIsInstance(str(error), str)

    def test_wrong_numbers_of_fields(self):
        for made, _ in with_fields():
            self.assertRaises(TypeError, made)
            self.assertRaises(TypeError, made, 1, 2)
        self.assertRaises(TypeError, errors.InTrial, 1)
        self.assertEqual(errors.InTrial().__dict__, {})

    def test_lists_and_dicts_are_copied_at_all_depths(self):
        for made, field in with_fields():
            inner, table = [1], {"k": [2]}
            value = [inner, (inner, {"a": table}), table]
            error = made(value)
            inner.append(3)
            table["k"].append(4)
            table["new"] = 5
            value.append(6)
            self.assertEqual(getattr(error, field), [[1], ([1], {"a": {"k": [2]}}), {"k": [2]}])
            self.assertNotIn(value, error.args)

    def test_deep_copies(self):
        for kind in ("list", "tuple", "dict"):
            self.assertEqual(errors.UnknownName(nested(40, kind)).value, nested(40, kind))
        self.assertEqual(errors.UnknownName(({"a": ([],)},)).value, ({"a": ([],)},))

    def test_the_order_of_keys_is_kept(self):
        table = {"z": 1, "a": {3: 1, 2: 1, None: [], (2, 1): 0}, "m": 1}
        told = errors.InvalidPrices(table).value
        self.assertEqual(list(told), ["z", "a", "m"])
        self.assertEqual(list(told["a"]), [3, 2, None, (2, 1)])

    def test_copies_are_plain(self):
        class Rows(list):
            pass

        class Pair(tuple):
            pass

        class Table(dict):
            pass

        told = errors.InvalidPaper([Rows([1]), Pair((1,)), Table(a=1)]).value
        self.assertEqual([type(part) for part in told], [list, tuple, dict])
        self.assertEqual(told, [[1], (1,), {"a": 1}])

    def test_errors_can_be_caught_as_what_they_are(self):
        for base in BASES:
            for name, _ in BASES[base]:
                with self.assertRaises(base):
                    raise getattr(errors, name)([])


if __name__ == "__main__":
    unittest.main()
