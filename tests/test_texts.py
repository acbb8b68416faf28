"""The text of a program and reading it: [30]."""

import random
import re
import sys
import unittest

from surelyset.programs import Program
from tests.support import SIZE, WORDS, Maker, any_values, due, failure, main_of, sample

WORD = "[a-z]{1,8}"
NUMBER = "(?:0|-?[1-9][0-9]*)"
FORMS = {
    "function": f"function {WORD}(?: in {WORD})?",
    "name": f"(?:plain|given) {WORD}|array {WORD} {NUMBER}(?: {NUMBER} {NUMBER})*",
    "simple": f"(?:set|drop|read|fail|call) {WORD}|leave|next|back|"
              f"(?:put|cut|look) {WORD} (?:{NUMBER}|{WORD}|{WORD} [-+] [1-9][0-9]*)",
    "either": "either", "loop": f"while|ever|count {WORD} {NUMBER} {NUMBER}", "try": "try",
    "or": "or", "on": f"on(?: {WORD})*", "finally": "finally", "end": "end",
}


def wrong_line(text):
    """The line for which InvalidText is due, None if none is: found in another way than the package does."""
    lines = text.split("\n")
    # What stands before a line: s none, f a function, b statements; then the statements that are not closed:
    # e an either, l a loop, t a try, h a handler, F a last block that is empty, G one that is not.
    state, function, own = "s", "", ""
    for at, line in enumerate(lines):
        forms = [form for form in FORMS if re.fullmatch(FORMS[form], line)]
        if len(forms) != 1:
            return at
        form, parts = forms[0], line.split(" ")
        if form == "function":
            if state not in ("s", "f", "b") or parts[1] <= function:
                return at
            state, function, own = "f", parts[1], ""
            continue
        if state == "s":
            return at
        if form == "name":
            if state != "f" or parts[1] <= own:
                return at
            own = parts[1]
            continue
        needed = {"or": "e", "on": "t", "finally": "t", "end": "eltG"}.get(form)
        if needed is not None and state[-1] not in needed:
            return at
        if form == "on" and parts[1:] != sorted(set(parts[1:])):
            return at
        state = state.replace("f", "b")
        if form == "end":
            state = state[:-1]
        elif form == "finally":
            state = state[:-1] + "F"
            continue
        elif form not in ("or", "on"):
            state = state[:-1] + state[-1].replace("F", "G")
            state += {"either": "e", "loop": "l", "try": "t"}.get(form, "")
    return None if len(state) == 1 else len(lines)


def written(functions):
    """The text of functions, which need not be those of a program: a second writing."""
    text = []
    for name in sorted(functions):
        parent, names, body = functions[name]
        text.append(f"function {name}" + (f" in {parent}" if parent else ""))
        for word in sorted(names):
            own = names[word]
            text.append(f"{own} {word}" if isinstance(own, str) else
                        " ".join(["array", word, str(own[0]), *(f"{low} {high}" for low, high in own[1])]))
        text += [line for statement in body for line in statement_lines(statement)]
    return "\n".join(text)


def statement_lines(statement):
    def inside(block):
        return [line for inner in block for line in statement_lines(inner)]

    head = statement[0]
    if head == "either":
        blocks = [["or", *inside(block)] for block in statement[1:]]
        return ["either", *sum(blocks, [])[1:], "end"]
    if head in ("while", "ever", "count"):
        return [" ".join(map(str, statement[:-1])), *inside(statement[-1]), "end"]
    if head == "try":
        lines = ["try", *inside(statement[1])]
        for words, block in statement[2]:
            lines += [" ".join(["on", *sorted(words)]), *inside(block)]
        return lines + (["finally", *inside(statement[3])] if statement[3] else []) + ["end"]
    if head in ("put", "cut", "look") and isinstance(statement[2], tuple):
        counter, more = statement[2]
        behind = f" {'-' if more < 0 else '+'} {abs(more)}" if more else ""
        return [f"{head} {statement[1]} {counter}{behind}"]
    return [" ".join(map(str, statement))]


def exchanged(chance, value):
    """A copy of the value in which perhaps words and integers are others."""
    if isinstance(value, (list, tuple)):
        return value.__class__([exchanged(chance, part) for part in value])
    if isinstance(value, int):
        return chance.choice([value] * 60 + [value + 1, value - 1, 0, -1, SIZE, SIZE + 1, -SIZE - 1, 10 ** 400])
    return chance.choice([value] * 150 + list(WORDS)) if value in WORDS else value


class Base(unittest.TestCase):
    def assert_wrong(self, line, *lines):
        text = "\n".join(lines)
        self.assertEqual(wrong_line(text), line, text)
        self.assertEqual(failure(Program.read, text), ("InvalidText", {"line": line}), text)

    def assert_text(self, functions, *lines):
        program = Program(functions)
        self.assertEqual(program.text, "\n".join(lines))
        self.assertEqual(Program.read(program.text), program)
        self.assertEqual(Program.read(program.text).text, program.text)
        self.assertEqual(written(functions), program.text)

    def assert_raises(self, told, *lines):
        """A text that can be read, with an error of the constructor."""
        text = "\n".join(lines)
        self.assertIsNone(wrong_line(text))
        found = failure(Program.read, text)
        self.assertEqual((found[0], *found[1].values()), told)


class WritingTest(Base):
    def test_the_sample(self):
        self.assert_text(sample(), "function f in main", "plain z", "while", "set x", "end", "either", "fail w", "or",
                         "end", "function main", "plain x", "given y", "either", "set x", "or", "call f", "end",
                         "read x")

    def test_names(self):
        names = {"z": "plain", "b": "given", "c": (1, ()), "a": (SIZE, ((0, 1), (5, SIZE)))}
        self.assert_text(main_of([], names), "function main", f"array a {SIZE} 0 1 5 {SIZE}", "given b", "array c 1",
                         "plain z")

    def test_simple_statements(self):
        body = [("set", "x"), ("drop", "x"), ("read", "x"), ("put", "a", 5), ("cut", "a", 0), ("look", "a", 9),
                ("back",), ("fail", "w"), ("call", "main"), ("while", [("leave",), ("next",)])]
        lines = ["set x", "drop x", "read x", "put a 5", "cut a 0", "look a 9", "back", "fail w", "call main",
                 "while", "leave", "next", "end"]
        self.assert_text(main_of(body, {"x": "plain", "a": (10, ())}), "function main", "array a 10", "plain x", *lines)

    def test_cells(self):
        body = [("count", "v", 10, 12, [("look", "a", ("v", 0)), ("cut", "a", ("v", 2)), ("put", "a", ("v", -10)),
                                        ("put", "a", ("v", 1)), ("put", "a", ("v", -1))])]
        self.assert_text(main_of(body, {"a": (20, ())}), "function main", "array a 20", "count v 10 12", "look a v",
                         "cut a v + 2", "put a v - 10", "put a v + 1", "put a v - 1", "end")

    def test_counts(self):
        body = [("count", "v", -5, 0, []), ("count", "w", SIZE, -SIZE, [("back",)])]
        self.assert_text(main_of(body), "function main", "count v -5 0", "end", f"count w {SIZE} {-SIZE}", "back",
                         "end")

    def test_blocks(self):
        self.assert_text(main_of([("either", [], [])]), "function main", "either", "or", "end")
        self.assert_text(main_of([("either", [("back",)], [], [("ever", [])], [], [], [("back",)])]), "function main",
                         "either", "back", "or", "or", "ever", "end", "or", "or", "or", "back", "end")
        self.assert_text(main_of([("try", [], [], [])]), "function main", "try", "end")
        self.assert_text(main_of([("try", [("back",)], [(["w", "a", "m"], []), ([], [("back",)])], [])]),
                         "function main", "try", "back", "on a m w", "on", "back", "end")
        self.assert_text(main_of([("try", [], [([], [])], [("back",), ("try", [], [], [])])]), "function main", "try",
                         "on", "finally", "back", "try", "end", "end")

    def test_words_of_the_language_as_names(self):
        functions = {"main": (None, {"in": "plain", "end": "plain"}, [("set", "end"), ("call", "in")]),
                     "in": (None, {}, []), "or": ("in", {}, [("fail", "on"), ("count", "end", 0, 1, [])])}
        self.assert_text(functions, "function in", "function main", "plain end", "plain in", "set end", "call in",
                         "function or in in", "fail on", "count end 0 1", "end")

    def test_at_random(self):
        chance = random.Random(4)
        right = 0
        for _ in range(500):
            functions = Maker(chance).functions()
            if due(functions) is None:
                right += 1
                text = written(functions)
                self.assertIsNone(wrong_line(text))
                program = Program(functions)
                self.assertEqual(program.text, text)
                self.assertEqual(Program.read(text), program)
                self.assertEqual(Program.read(text).text, text)
        self.assertGreater(right, 300)


class WrongLineTest(Base):
    def test_any_value(self):
        for value in any_values():
            self.assertEqual(failure(Program.read, value), ("InvalidText", {"line": 0}))
        self.assertEqual(failure(Program.read, ["function main"]), ("InvalidText", {"line": 0}))

    def test_no_line_at_all(self):
        self.assert_wrong(0, "")
        self.assert_wrong(0, "", "function main")
        self.assert_wrong(1, "function main", "")
        self.assert_wrong(2, "function main", "back", "", "back")

    def test_a_function_comes_first(self):
        for line in ("plain x", "array a 1", "back", "set x", "either", "end", "or", "on", "finally", "try", "no"):
            self.assert_wrong(0, line, "function main")

    def test_lines_without_a_form(self):
        lines = ["no", "back ", " back", "back\r", "back\t", "Back", "BACK", "back back", "leave now", "next 1",
                 "set", "set ", "set X", "set x y", "set  x", "set abcdefghi", "set x1", "set \u00e4", "drop 1", "read -",
                 "fail", "fail W", "fail a b", "call", "call F", "call f g", "put", "put a", "put a ", "put 1 a",
                 "put a A", "put a 1 2", "put a v +", "put a v + 0", "put a v - 0", "put a v + -1", "put a v - -1",
                 "put a v + 01", "put a v +1", "put a v+1", "put a v * 1", "put a 1 + 1", "put a v + v", "put a v + 1 1",
                 "put a v 1", "put a -0", "put a 00", "put a 05", "put a +5", "put a 5.0", "put a 1_0", "put a -",
                 "put a \u0663", "put a \u00b2", "cut a --5", "look a - 5", "put a v  + 1", "either 1", "either ", "either either",
                 "while x", "ever x", "try x", "count", "count v", "count v 0", "count v 0 1 2", "count V 0 1", "count 0 1 v",
                 "count v 0 -0", "count v 01 2", "count v 0  1", "count v a b", "or or", "or 1", "on ", "on a  b", "on A",
                 "on b a", "on a a", "on a 1", "finally 1", "finally ", "end end", "end ", "end either", "ende",
                 "function", "function ", "function F", "function f in", "function f in ", "function f of g",
                 "function f in g h", "function f in G", "function F in g", "function  in g", "function f  in g", "function abcdefghi", "function f g",
                 "plain", "plain X", "plain x y", "given", "given 1", "array", "array a", "array a ", "array a b",
                 "array 1 a", "array A 1", "array a 1 2", "array a 1 2 3 4", "array a 01", "array a +1", "array a -0",
                 "array a 1 0 b", "array a 1 0 01", "array a 5 0 1 ", "\x00", "\u2028", "set x\x0b", "set x\x85"]
        for line in lines:
            self.assert_wrong(1, "function a", line)
            self.assert_wrong(2, "function a", "plain a", line, "no")
        for line in lines:
            if line not in ("on b a", "on a a"):
                self.assert_wrong(3, "function a", "try", "on", line)
        self.assert_wrong(3, "function a", "try", "on", "on b a", "end")
        self.assert_wrong(3, "function a", "try", "on", "on a a", "end")
        self.assert_wrong(2, "function a", "try", "on a b a", "end")

    def test_functions_ascend(self):
        self.assert_wrong(1, "function main", "function f")
        self.assert_wrong(1, "function main", "function main")
        self.assert_wrong(2, "function f", "function main", "function g in f")
        self.assert_wrong(3, "function f", "function g", "function main", "function f in g")

    def test_functions_stand_where_no_statement_is_open(self):
        for line in ("either", "while", "ever", "try", "count v 0 1"):
            self.assert_wrong(2, "function f", line, "function main")
        self.assert_wrong(3, "function f", "try", "finally", "function main")
        self.assert_wrong(4, "function f", "either", "or", "back", "function main")

    def test_names_stand_behind_the_function(self):
        for line in ("plain x", "given x", "array x 1"):
            self.assert_wrong(2, "function main", "back", line)
            self.assert_wrong(2, "function main", "while", line)
            self.assert_wrong(4, "function main", "plain a", "while", "end", line)

    def test_names_ascend(self):
        self.assert_wrong(2, "function main", "plain x", "plain x")
        self.assert_wrong(2, "function main", "plain x", "given x")
        self.assert_wrong(2, "function main", "given x", "array a 1")
        self.assert_wrong(3, "function main", "array a 1", "plain b", "given ab")
        self.assertEqual(Program.read("function f\nplain x\nfunction main\nplain a").names, ("f", "main"))

    def test_where_parts_belong(self):
        for opening in ("while", "ever", "count v 0 1", "try"):
            self.assert_wrong(2, "function main", opening, "or", "end")
        for opening in ("while", "ever", "count v 0 1", "either"):
            self.assert_wrong(2, "function main", opening, "on w", "end")
            self.assert_wrong(2, "function main", opening, "finally", "back", "end")
        for line in ("or", "on", "on w", "finally", "end"):
            self.assert_wrong(1, "function main", line)
            self.assert_wrong(3, "function main", "while", "end", line)
        self.assert_wrong(3, "function main", "either", "while", "or")
        self.assert_wrong(3, "function main", "try", "while", "on")
        self.assert_wrong(3, "function main", "try", "either", "finally")

    def test_finally(self):
        self.assert_wrong(3, "function main", "try", "finally", "end")
        self.assert_wrong(3, "function main", "try", "finally", "finally")
        self.assert_wrong(3, "function main", "try", "finally", "on")
        self.assert_wrong(4, "function main", "try", "finally", "back", "on")
        self.assert_wrong(4, "function main", "try", "finally", "back", "finally")
        self.assert_wrong(3, "function main", "try", "finally", "or")
        self.assert_wrong(5, "function main", "try", "finally", "try", "finally", "end")
        self.assert_wrong(7, "function main", "try", "finally", "while", "end", "end", "back", "end")

    def test_open_at_the_end(self):
        self.assert_wrong(2, "function main", "while")
        self.assert_wrong(3, "function main", "try", "finally")
        self.assert_wrong(4, "function main", "either", "or", "back")
        self.assert_wrong(4, "function main", "while", "ever", "end")
        self.assert_wrong(3, "function f", "try", "on")
        self.assert_wrong(601, "function main", *["while"] * 600)

    def test_before_the_errors_of_the_constructor(self):
        self.assert_wrong(3, "function f", "array a 0", "set nothing", "no")
        self.assert_wrong(2, "function f in f", "call f", "end")
        self.assert_wrong(2, "function f", "while")

    def test_broken_texts_at_random(self):
        chance = random.Random(5)
        extra = ["end", "or", "on", "on w", "finally", "back", "while", "either", "try", "plain x", "function g",
                 "function z in a", "set x", "", "array a 5 0 1", "put a v + 1", "put a v + 0", "leave"]
        seen = set()
        for _ in range(3000):
            lines = written(Maker(chance).functions()).split("\n")
            for _ in range(chance.choice([1, 1, 2])):
                at = chance.randrange(len(lines) + 1)
                kind = chance.randrange(4)
                if kind == 0:
                    lines[at:at + 1] = []
                elif kind == 1:
                    lines.insert(at, chance.choice(extra))
                elif kind == 2:
                    lines.insert(at, chance.choice(lines or extra))
                else:
                    other = chance.randrange(len(lines) + 1)
                    lines[at:at + 1], lines[other:other + 1] = lines[other:other + 1], lines[at:at + 1]
            text = "\n".join(lines)
            line, told = wrong_line(text), failure(Program.read, text)
            if line is not None:
                self.assertEqual(told, ("InvalidText", {"line": line}), text)
            elif told is None:
                self.assertEqual(Program.read(text).text, text)
            else:
                self.assertNotEqual(told[0], "InvalidText", text)
            seen.add(told and told[0])
        self.assertLessEqual({None, "InvalidText", "InvalidStatement", "InvalidFunctions"}, seen)


class ConstructorTest(Base):
    def test_functions(self):
        self.assert_raises(("InvalidFunctions", {"f": (None, {}, [])}), "function f")
        lines = [f"function {word}" for word in "abcdefghijkl"]
        self.assertEqual(failure(Program.read, "\n".join([*lines, "function main"]))[0], "InvalidFunctions")
        self.assertEqual(len(Program.read("\n".join([*lines[:11], "function main"])).names), 12)

    def test_parents(self):
        self.assert_raises(("InvalidFunction", "main"), "function f", "function main in f")
        self.assert_raises(("InvalidFunction", "f"), "function f in g", "function main")
        self.assert_raises(("InvalidFunction", "f"), "function f in f", "function main")

    def test_names(self):
        for line in ("array a 0", "array a -5", f"array a {SIZE + 1}", "array a 5 2 2", "array a 5 0 6", "array a 5 -1 2",
                     "array a 5 0 1 1 2", "array a 5 3 4 0 1", "array a " + "9" * 9000):
            self.assert_raises(("InvalidNames", "main"), "function main", line, "set nothing")
        words = [f"plain {word}" for word in "abcdefghi"]
        self.assert_raises(("InvalidNames", "main"), "function main", *words)
        self.assertEqual(len(Program.read("\n".join(["function main", *words[:8]]))["main"][1]), 8)

    def test_statements(self):
        self.assert_raises(("InvalidStatement", ("main", (0,))), "function main", "set x")
        self.assert_raises(("InvalidStatement", ("main", (0,))), "function main", "leave")
        self.assert_raises(("InvalidStatement", ("main", (0,))), "function main", "array a 5", "put a 5")
        self.assert_raises(("InvalidStatement", ("main", (0,))), "function main", "array a 5", "put a -1")
        self.assert_raises(("InvalidStatement", ("main", (1, 0, 0))), "function main", "array a 5", "count v 0 1", "end",
                           "count v 0 1", "put a v + 5", "end")
        self.assert_raises(("InvalidStatement", ("main", (0,))), "function main", "array a 5", "put a v")
        self.assert_raises(("InvalidStatement", ("main", (0,))), "function main", "either", "set x", "end")
        self.assert_raises(("InvalidStatement", ("main", (0,))), "function main", "either", *["or"] * 6, "end")
        self.assert_raises(("InvalidStatement", ("main", (0,))), "function main", "try", *["on"] * 17, "end")
        self.assert_raises(("InvalidStatement", ("main", (1, 3, 0))), "function main", "back", "try", "on", "on w",
                           "finally", "call f", "end")
        self.assert_raises(("TooMany", 150), "function main", *["back"] * 151)
        self.assertEqual(len(Program.read("\n".join(["function main", *["back"] * 150]))), 150)

    def test_at_random(self):
        chance = random.Random(6)
        seen = set()
        for _ in range(1500):
            functions = Maker(chance).functions()
            changed = {}
            for name in functions:
                parent, names, body = functions[name]
                names = {word: exchanged(chance, names[word]) for word in names}
                changed[name] = (parent, names, exchanged(chance, body))
            # words of a handler that are there twice cannot be written
            text = written(changed)
            if wrong_line(text) is None:
                told = failure(Program.read, text)
                self.assertEqual(told, due(changed), text)
                seen.add(told and told[0])
        self.assertLessEqual({None, "InvalidNames", "InvalidStatement"}, seen)


class LongTest(Base):
    def test_integers_of_many_digits(self):
        for digits in (31, 59, 60, 61, 120, 121, 399, 4300, 4301, 30000):
            self.assert_raises(("InvalidNames", "main"), "function main", "array a " + "9" * digits)
            self.assert_raises(("InvalidStatement", ("main", (0,))), "function main", "array a 5", "put a 1" + "0" * digits)
            self.assert_raises(("InvalidStatement", ("main", (0,))), "function main", "count v -" + "1" * digits + " 0",
                               "end")
            self.assert_raises(("InvalidStatement", ("main", (0, 0, 0))), "function main", "array a 5", "count v 1 0",
                               "put a v - " + "7" * digits, "end")
            self.assert_wrong(1, "function main", "array a 0" + "9" * digits)
            self.assert_wrong(1, "function main", "put a " + "9" * digits + "x")

    def test_the_integers_that_are_read(self):
        chance = random.Random(7)
        for digits in [*range(1, 130), 1000, 4000]:
            number = chance.randrange(10 ** (digits - 1), 10 ** digits)
            told = failure(Program.read, f"function f\narray a {number} -{number} 1\ncount v -{number} {number}\nend")
            wanted = {"f": (None, {"a": (number, ((-number, 1),))}, [("count", "v", -number, number, [])])}
            self.assertEqual(told, ("InvalidFunctions", {"value": wanted}))

    def test_a_number_beyond_what_python_reads(self):
        told = failure(Program.read, "function f\narray a " + "9" * 6000)[1]["value"]
        self.assertTrue(told["f"][1]["a"][0] == 10 ** 6000 - 1)

    def test_depth(self):
        # the lines that open a statement, and the number of the part in which the next one stands
        openings = [(["while"], 0), (["ever"], 0), (["try"], 0), (["either", "or"], 1)]
        for opening, part in openings:
            text = "\n".join(["function main", *opening * 7, *["end"] * 7])
            self.assertEqual(Program.read(text).text, text)
            for many in (8, 100, 900, 20000):
                told = ("InvalidStatement", ("main", (0, *(part, 0) * 7)))
                self.assert_raises(told, "function main", *opening * many, *["end"] * many)

    def test_depth_of_counts(self):
        for many in (2, 8, 900):
            told = ("InvalidStatement", ("main", (0, 0, 0)))
            self.assert_raises(told, "function main", *["count v 0 1"] * many, *["end"] * many)

    def test_depth_in_handlers(self):
        for many in (8, 700, sys.getrecursionlimit() * 3):
            text = "\n".join(["function main", *["try", "on w"] * many, *["end"] * many])
            wanted = ("InvalidStatement", {"spot": ("main", (0, *(1, 0) * 7))})
            self.assertEqual(failure(Program.read, text), wanted)
            text = "\n".join(["function f", *["try", "on w"] * many, *["end"] * many])
            self.assertEqual(failure(Program.read, text)[0], "InvalidFunctions")
            text = "\n".join(["function main", *["try", "finally"] * many, "back", *["end"] * many])
            self.assertEqual(failure(Program.read, text), ("InvalidStatement", {"spot": ("main", (0, *(1, 0) * 7))}))

    def test_many_lines(self):
        self.assert_raises(("TooMany", 150), "function main", *["back"] * 20000)


if __name__ == "__main__":
    unittest.main()
