"""Programs without finally blocks: [28] of the document."""

import inspect
import random
import unittest

from surelyset import plain as module
from surelyset.plain import growth, without_finally
from surelyset.programs import Program
from surelyset.running import run
from surelyset.states import states
from tests.makers import SmallMaker
from tests.support import failure, main_of, sample
from tests.withouting import TooGreat, Without

SIZE = 10 ** 30
WORDS = ("main", *"bcdefghijkl")


class TryMaker(SmallMaker):
    """Programs with many trys, in one another too, and jumps of all kinds."""

    def parts(self, many, body, depth, looping, counts, share):
        """One of the blocks gets most of the statements: so some are deep."""
        great = self.chance.randrange(many)
        shares = [share * 4 // 5 if at == great else share // (5 * many) + 1 for at in range(many)]
        return [self.block(body, depth + 1, looping, counts, each) for each in shares]

    def statement(self, body, depth, looping, counts, share):
        if depth >= self.depth or share < 2 or self.chance.random() < 0.35:
            self.left -= 1
            return self.simple(self.chance.choice(["use", "use", "jump", "jump", "call"]), body, depth, looping, counts)
        if self.chance.random() < 0.6:
            self.left -= 1
            return self.try_statement(body, depth, looping, counts, share - 1)
        return SmallMaker.statement(self, body, depth, looping, counts, share)

    def try_statement(self, body, depth, looping, counts, share):
        many = self.chance.choice([0, 0, 1, 1, 2])
        first, last, *others = self.parts(2 + many, body, depth, looping, counts, share)
        handlers = [(self.chance.sample("abuw", self.chance.choice([0, 1, 1, 2])), other) for other in others]
        if self.chance.random() < 0.3:
            return "try", first, handlers, []
        return "try", first, handlers, last or [("either", [], [])]

    def simple(self, kind, body, depth, looping, counts):
        if kind == "jump" and self.chance.random() < 0.3:
            return self.perhaps(("fail", self.chance.choice("bcuwz")), depth)
        return SmallMaker.simple(self, kind, body, depth, looping, counts)


def body_of(body, names=None, name="main"):
    """The new body and the new spots of a program with nothing but main."""
    made, spots = without_finally(Program(main_of(body, names or {"x": "plain"})))
    return made[name][2], {spot[1]: origin and origin[1] for spot, origin in spots.items()}


def fall(word):
    return "fail", word


class BodyTest(unittest.TestCase):
    def test_example(self):
        program = Program(main_of([("ever", [("try", [("leave",)], [], [("set", "x")])]), ("read", "x")], {"x": "plain"}))
        made, spots = without_finally(program)
        self.assertEqual(("ever", (("try", (("fail", "b"), ("fail", "a")), ((("b",), (("set", "x"), ("leave",))),), ()),)),
                         made.functions["main"][2][0])
        self.assertEqual(7, growth(program))
        self.assertEqual((7, 5), (len(made), len(program)))

    def test_statements_of_the_block_alone(self):
        body, spots = body_of([("try", [("drop", "x")], [], [("set", "x")]), ("read", "x")])
        self.assertEqual((("try", (("drop", "x"), fall("a")), ((("a",), (("set", "x"),)),), ()), ("read", "x")), body)
        self.assertEqual({(0,): (0,), (0, 0, 0): (0, 0, 0), (0, 0, 1): (0, 0, 1), (0, 0, 2): None,
                          (0, 1, 0): (0, 1, 0), (0, 1, 1): (0, 1, 1), (1,): (1,), (2,): (2,)}, spots)

    def test_the_old_try(self):
        inner = [("either", [fall("w")], [("back",)], [])]
        body, spots = body_of([("try", inner, [(["w"], [("set", "x")])], [("drop", "x")])])
        old = ("try", (("either", (fall("w"),), (fall("d"),), ()),), ((("w",), (("set", "x"),)),), ())
        drop = ("drop", "x")
        self.assertEqual((("try", (old, fall("a")), ((("a",), (drop,)), (("d",), (drop, ("back",)))), ()),), body)
        self.assertEqual({(0,): (0,), (0, 0, 0): None, (0, 0, 0, 0, 0): (0, 0, 0), (0, 0, 0, 0, 0, 0, 0): (0, 0, 0, 0, 0),
                          (0, 0, 0, 0, 0, 0, 1): (0, 0, 0, 0, 1), (0, 0, 0, 0, 0, 1, 0): (0, 0, 0, 1, 0),
                          (0, 0, 0, 0, 0, 1, 1): (0, 0, 0, 1, 1), (0, 0, 0, 0, 0, 2, 0): (0, 0, 0, 2, 0),
                          (0, 0, 0, 0, 1): (0, 0, 1), (0, 0, 0, 1, 0): (0, 1, 0), (0, 0, 0, 1, 1): (0, 1, 1),
                          (0, 0, 1): None, (0, 0, 2): None, (0, 1, 0): (0, 2, 0), (0, 1, 1): (0, 2, 1),
                          (0, 2, 0): (0, 2, 0), (0, 2, 1): (0, 2, 1), (0, 2, 2): None, (1,): (1,)}, spots)

    def test_order_of_handlers(self):
        """done, leave, next, back, then failures, words ascending, those of calls too."""
        parts = [[fall("z")], [("back",)], [("next",)], [fall("cc")], [("leave",)], [("call", "f")]]
        functions = main_of([("while", [("try", [("either", *parts)], [], [("set", "x")])])], {"x": "plain"})
        functions["f"] = (None, {}, [("either", [fall("e")], [fall("zz")], [("back",)])])
        made, _ = without_finally(Program(functions))
        told = made["main"][2][0][1][0]
        self.assertEqual([("a",), ("b",), ("c",), ("d",), ("cc",), ("e",), ("z",), ("zz",)], [words for words, _ in told[2]])
        jumps = [("leave",), ("next",), ("back",), fall("cc"), fall("e"), fall("z"), fall("zz")]
        self.assertEqual([(("set", "x"),), *[(("set", "x"), jump) for jump in jumps]], [block for _, block in told[2]])
        self.assertEqual(("either", (fall("z"),), (fall("d"),), (fall("c"),), (fall("cc"),), (fall("b"),), (("call", "f"),)),
                         told[1][0])

    def test_words_that_are_taken(self):
        last = [("set", "x")]
        for named, codes in (([], "abcd"), (["a"], "bcde"), (["b", "d"], "acef"), (["c", "e"], "abdf")):
            inner = [("either", [("leave",)], [("next",)], [("back",)], [])]
            functions = main_of([("while", [("try", inner, [], last)]), ("try", [], [(named, [])], [])], {"x": "plain"})
            told = without_finally(Program(functions))[0]["main"][2][0][1][0]
            self.assertEqual([(word,) for word in codes], [words for words, _ in told[2]])
        # Those of failures that no run comes to count too, and so do those of other functions.
        functions = main_of([("try", [], [], last), ("back",), fall("a")], {"x": "plain"})
        functions["f"] = (None, {}, [("try", [], [(["b", "longword"], [])], []), fall("c")])
        self.assertEqual(("d",), without_finally(Program(functions))[0]["main"][2][0][2][0][0])

    def test_words_of_two_letters(self):
        letters = "abcdefghijklmnopqrstuvwxyz"
        for taken, codes in ((letters, ["aa", "ab", "ac", "ad"]), (letters[:-1], ["z", "aa", "ab", "ac"]),
                             ([*letters, "ab", *["a" + one for one in letters[3:]]], ["aa", "ac", "ba", "bb"]),
                             (letters[:-2] + "z", ["y", "aa", "ab", "ac"])):
            words = list(taken)
            tries = [("try", [], [(words[at:at + 40], [])], []) for at in range(0, len(words), 40)]
            inner = [("either", [("leave",)], [("next",)], [("back",)], [])]
            functions = main_of([("while", [("try", inner, [], [("set", "x")])]), *tries], {"x": "plain"})
            told = without_finally(Program(functions))[0]["main"][2][0][1][0]
            self.assertEqual([(word,) for word in codes], [words for words, _ in told[2]])

    def test_handlers_without_words(self):
        """They get all words of the program's fail statements, also in trys without finally blocks."""
        functions = main_of([("try", [fall("w")], [([], [("set", "x")])], []),
                             ("try", [("call", "f")], [(["w"], []), ([], [("back",)])], [("drop", "x")])], {"x": "plain"})
        functions["f"] = (None, {}, [("either", [fall("u")], [fall("w")])])
        made, _ = without_finally(Program(functions))
        first, second = made["main"][2]
        self.assertEqual(("try", (fall("w"),), ((("u", "w"), (("set", "x"),)),), ()), first)
        old = ("try", (("call", "f"),), ((("w",), ()), (("u", "w"), (fall("d"),))), ())
        self.assertEqual(("try", (old, fall("a")), ((("a",), (("drop", "x"),)), (("d",), (("drop", "x"), ("back",)))), ()), second)

    def test_no_words_of_failures(self):
        """A handler without words is taken out, and perhaps no handler is left."""
        body, spots = body_of([("try", [("set", "x")], [([], [("read", "x")])], [])])
        self.assertEqual((("try", (("set", "x"),), (), ()),), body)
        self.assertEqual({(0,): (0,), (0, 0, 0): (0, 0, 0), (0, 0, 1): (0, 0, 1), (1,): (1,)}, spots)
        body, spots = body_of([("try", [], [([], [("read", "x")]), (["a"], [("set", "x")]), ([], [])], [])])
        self.assertEqual((("try", (), ((("a",), (("set", "x"),)),), ()),), body)
        self.assertEqual((0, 2, 0), spots[(0, 1, 0)])
        body, spots = body_of([("try", [], [([], [("read", "x")])], [("drop", "x")])])
        self.assertEqual((("try", (fall("a"),), ((("a",), (("drop", "x"),)),), ()),), body)
        self.assertEqual({(0,): (0,), (0, 0, 0): (0, 0, 0), (0, 0, 1): None, (0, 1, 0): (0, 2, 0), (0, 1, 1): (0, 2, 1),
                          (1,): (1,)}, spots)

    def test_loops_within(self):
        """leave and next of loops in the try stay, back does not."""
        inner = [("while", [("either", [("leave",)], [("next",)], [("back",)])])]
        body, spots = body_of([("ever", [("try", inner, [], [("leave",)])])])
        told = ("try", (("while", (("either", (("leave",),), (("next",),), (fall("d"),)),)), fall("a")),
                ((("a",), (("leave",),)), (("d",), (("leave",), ("back",)))), ())
        self.assertEqual((("ever", (told,)),), body)
        self.assertEqual((0, 0, 0, 1, 1), spots[(0, 0, 0, 2, 1)])
        self.assertEqual((0, 0, 0, 0, 0, 0, 0, 2, 0), spots[(0, 0, 0, 0, 0, 0, 0, 2, 0)])

    def test_jumps_of_the_last_block(self):
        """They stay what they are, unless the try stands in another one with a finally block."""
        inner = ("try", [fall("w")], [], [("either", [("back",)], [])])
        last = ("either", (("back",),), ())
        body, _ = body_of([inner])
        self.assertEqual((("try", (fall("w"), fall("a")), ((("w",), (last, fall("w"))),), ()),), body)
        body, spots = body_of([("try", [inner], [], [("set", "x")])])
        bent = ("either", (fall("d"),), ())
        first = ("try", (fall("w"), fall("a")), ((("w",), (bent, fall("w"))),), ())
        self.assertEqual((("try", (first, fall("a")), ((("d",), (("set", "x"), ("back",))), (("w",), (("set", "x"), fall("w")))),
                           ()),), body)
        self.assertEqual((0, 0, 0, 1, 0, 0, 0), spots[(0, 0, 0, 1, 0, 0, 0)])

    def test_a_try_in_the_last_block(self):
        inner = ("try", [("set", "x")], [], [("drop", "x")])
        body, spots = body_of([("try", [("either", [fall("w")], [])], [], [inner, ("read", "x")])])
        last = ("try", (("set", "x"), fall("a")), ((("a",), (("drop", "x"),)),), ())
        self.assertEqual((("try", (("either", (fall("w"),), ()), fall("a")),
                           ((("a",), (last, ("read", "x"))), (("w",), (last, ("read", "x"), fall("w")))), ()),), body)
        for part in (1, 2):
            self.assertEqual([(0, 1, 0), (0, 1, 0, 1, 0), None, (0, 1, 1)],
                             [spots[(0, part, *path)] for path in ((0,), (0, 1, 0), (0, 0, 2), (1,))])
        self.assertEqual([(0, 1, 2), (0, 1, 2), None], [spots[(0, 1, 2)], spots[(0, 2, 2)], spots[(0, 2, 3)]])

    def test_what_no_run_comes_to(self):
        """What counts is how the try ends when it is begun."""
        body, _ = body_of([("back",), ("try", [("back",), fall("w")], [], [("set", "x")])])
        self.assertEqual((("back",), ("try", (fall("d"), fall("w"), fall("a")), ((("d",), (("set", "x"), ("back",))),), ())), body)
        body, spots = body_of([("try", [("ever", [])], [], [("set", "x"), ("try", [], [], [("set", "x")])])])
        self.assertEqual((("try", (("ever", ()), fall("a")), (), ()),), body)
        self.assertEqual([(0,), (0, 0, 0), (0, 0, 0, 0, 0), (0, 0, 1), (0, 0, 2), (1,)], list(spots))
        functions = {**main_of([("try", [("call", "f")], [], [("set", "x")])], {"x": "plain"}), "f": (None, {}, [("call", "f")])}
        self.assertEqual((("try", (("call", "f"), fall("a")), (), ()),), without_finally(Program(functions))[0]["main"][2])

    def test_without_finally_blocks(self):
        for functions in (sample(), main_of([("try", [("back",)], [(["w"], [])], [])])):
            program = Program(functions)
            made, spots = without_finally(program)
            self.assertEqual((program, {spot: spot for spot in program.spots}, len(program)), (made, spots, growth(program)))

    def test_names_and_functions(self):
        functions = {"main": (None, {"a": (3, ((1, 2),)), "x": "given"}, [("call", "f")]),
                     "f": ("main", {"y": "plain"}, [("try", [("look", "a", 2)], [], [("count", "v", 0, 2, [("put", "a", ("v", 1))])])])}
        made, spots = without_finally(Program(functions))
        self.assertEqual([("main", None), ("f", "main")], [(name, made[name][0]) for name in ("main", "f")])
        self.assertEqual([functions[name][1] for name in functions], [made[name][1] for name in functions])
        self.assertEqual(list(made.spots), list(spots))
        self.assertEqual((("count", "v", 0, 2, (("put", "a", ("v", 1)),)),), made["f"][2][0][2][0][1])

    def test_new_answers(self):
        program = Program(main_of([("try", [], [], [("set", "x")])], {"x": "plain"}))
        without_finally(program)[1].clear()
        self.assertEqual(6, len(without_finally(program)[1]))


class LimitTest(unittest.TestCase):
    def limit(self, program):
        told = failure(without_finally, program)
        return None if told is None else (told[0], told[1]["limit"])

    def many_words(self, many):
        """A body that fails with so many words, or is done."""
        words = ["u" + chr(97 + at) for at in range(many)]
        body = []
        while words:
            now, words = words[:5], words[5:]
            body.append(("either", *[[fall(word)] for word in now], []))
        return body

    def test_handlers(self):
        last = [("set", "x")]
        for many, limit in ((15, None), (16, ("TooMany", 16)), (17, ("TooMany", 16))):
            program = Program(main_of([("try", self.many_words(many), [], last)], {"x": "plain"}))
            self.assertEqual(limit, self.limit(program))
        # The old try may have 16 handlers, the new one too.
        words = [f"u{chr(97 + at)}" for at in range(16)]
        handlers = [([word], [fall(word)]) for word in words]
        program = Program(main_of([("try", [*self.many_words(16), ("ever", [])], handlers, last)], {"x": "plain"}))
        self.assertEqual(None, self.limit(program))
        self.assertEqual([16, 16], [len(without_finally(program)[0]["main"][2][0][2]),
                                    len(without_finally(program)[0]["main"][2][0][1][0][2])])
        program = Program(main_of([("try", self.many_words(16), handlers, last)], {"x": "plain"}))
        self.assertEqual(("TooMany", 16), self.limit(program))

    def test_what_is_taken_out_is_not_counted(self):
        """A try in a finally block to which no run comes is not in the program."""
        inner = [("try", self.many_words(17), [], [("set", "x")])]
        program = Program(main_of([("try", [("ever", [])], [], inner)], {"x": "plain"}))
        self.assertEqual((None, 3), (self.limit(program), growth(program)))
        many = [("try", [("set", "x")] * 20, [], [("set", "x")] * 100)]
        program = Program(main_of([("try", [("ever", [("try", [("back",)], [], many)])], [(["w"], many[:0])], [("set", "x")])],
                                  {"x": "plain"}))
        self.assertEqual(Without(program.functions).many, growth(program))

    def test_statements(self):
        for many, limit in ((143, None), (144, ("TooMany", 150))):
            body = [("try", [("either", [("back",)], [])], [], [("set", "x")]), *[("set", "x")] * many]
            program = Program(main_of(body, {"x": "plain"}))
            self.assertEqual((limit, many + 7), (self.limit(program), growth(program)))
        functions = {name: (None, {}, [("back",)] * 12) for name in WORDS}
        functions["main"] = (None, {}, [("try", [("back",)] * 2, [], [("either", [], [])]), *[("back",)] * 12])
        self.assertEqual((None, 150), (self.limit(Program(functions)), growth(Program(functions))))
        functions["l"][2].append(("back",))
        self.assertEqual((("TooMany", 150), 151), (self.limit(Program(functions)), growth(Program(functions))))

    def deep(self, body, many):
        for _ in range(many):
            body = [("either", body, [])]
        return body

    def test_depth(self):
        last = [("either", [("back",)], [])]
        for many, limit in ((5, None), (6, ("TooMany", 8))):
            program = Program(main_of(self.deep([("try", [fall("w")], [(["w"], [])], [fall("u")])], many)))
            self.assertEqual(limit, self.limit(program))
        for many, limit in ((5, None), (6, None)):
            program = Program(main_of(self.deep([("try", [fall("w")], [], last)], many - 1)))
            self.assertEqual(limit, self.limit(program))
        program = Program(main_of(self.deep([("try", [fall("w")], [], [fall("w")])], 6)))
        self.assertEqual(None, self.limit(program))

    def test_order(self):
        """First too many handlers, then too many statements, then too deep blocks."""
        deep = self.deep([("try", [fall("w")], [(["w"], [])], [fall("u")])], 6)
        many = [("try", self.many_words(12), [], [("set", "x")] * 12)]
        handlers = [("try", self.many_words(16), [], [("set", "x")])]
        for body, limit in ((deep, 8), (deep + many, 150), (many + deep + handlers, 16), (handlers + deep, 16), (many, 150)):
            self.assertEqual(("TooMany", limit), self.limit(Program(main_of(body, {"x": "plain"}))))

    def test_made_on_the_way(self):
        """A finally block that is copied again is not looked at until the end."""
        inner = [("try", [("ever", [])], [], [("try", [*self.many_words(16)], [], [("set", "x")])])]
        program = Program(main_of(inner, {"x": "plain"}))
        self.assertEqual((None, 3), (self.limit(program), growth(program)))

    def test_growth_far_too_great(self):
        """Finally blocks in one another: each one is copied for each outcome of the try."""
        body = [("set", "x")]
        want = 1
        for _ in range(6):
            body = [("try", [("either", [fall("u")], [fall("v")], [("back",)], [])], [], body)]
            # The try, its block of 4 with a failure behind, four copies, three of them with a jump behind.
            want = 1 + 5 + 4 * want + 3
        program = Program(main_of(body, {"x": "plain"}))
        self.assertEqual((want, ("TooMany", 150)), (growth(program), self.limit(program)))

    def test_growth_of_many_functions(self):
        letters = "abcdefghijk"
        body = [("either", *[[fall(letter)] for letter in letters[:5]], []), ("either", *[[fall(letter)] for letter in letters[5:10]], [])]
        want, last = 1, [("call", "main")]
        for _ in range(6):
            last = [("try", body[:1], [], last)]
            want = 1 + 6 + 1 + 6 * want + 5
        functions = {name: (None, {}, last) for name in WORDS[:3]}
        program = Program(functions)
        # Each call of main fails with five words or is done: a copy of the innermost one is as before.
        self.assertEqual(3 * want, growth(program))


class RandomTest(unittest.TestCase):
    def test_like_the_second_reading(self):
        count = {None: 0, 16: 0, 150: 0, 8: 0, "great": 0, "changed": 0}
        for seed in range(500):
            chance = random.Random(seed)
            depth = chance.choice([4, 5, 6, 7])
            program = Program(TryMaker(chance, statements=chance.choice([6, 20, 50, 90]), depth=depth, functions=2, names=2).functions())
            try:
                want = Without(program.functions)
            except TooGreat:
                count["great"] += 1
                self.assertGreater(growth(program), 4000 // 16)
                self.assertIsNotNone(failure(without_finally, program))
                continue
            limit = 16 if want.handlers > 16 else 150 if want.many > 150 else 8 if want.depth > 8 else None
            self.assertEqual(want.many, growth(program), seed)
            count[limit] += 1
            if limit is not None:
                self.assertEqual(("TooMany", {"limit": limit}), failure(without_finally, program))
                continue
            made, spots = without_finally(program)
            self.assertEqual((want.functions, want.spots), (made.functions, spots), seed)
            self.assertEqual(list(made.spots), list(spots))
            count["changed"] += made != program
            self.compare_runs(chance, program, made, spots)
        self.assertGreater(min(count[key] for key in (None, 150, 8, "changed")), 20, count)

    def compare_runs(self, chance, program, made, spots):
        """The same outcomes and events for the same choices."""
        for _ in range(8):
            choices = [chance.choice([0, 1, 0, 1, 1]) for _ in range(60)]
            old = run(program, choices, most=1000)
            new = run(made, choices, most=10000)
            if old.ending != "most" and new.ending != "most":
                self.assertEqual((old.ending, old.used), (new.ending, new.used))
                events = tuple((spots[spot], is_set) for spot, is_set in new.events if spots[spot] is not None)
                self.assertEqual(old.events, events)

    def test_states(self):
        """With the same states runs come to the spots that go to the same one."""
        compared = 0
        for seed in range(80):
            chance = random.Random(seed)
            program = Program(TryMaker(chance, statements=10, depth=4, functions=1, names=1).functions())
            if failure(without_finally, program) is not None:
                continue
            made, spots = without_finally(program)
            for spot in program.spots:
                statement = program.statement(spot)
                if statement is not None and statement[0] == "read":
                    found = [states(made, one, statement[1]) for one in spots if spots[one] == spot]
                    want = states(program, spot, statement[1])
                    self.assertEqual(set(want), set().union(*found))
                    compared += want != ()
        self.assertGreater(compared, 30)


class ArgumentTest(unittest.TestCase):
    def test_arguments(self):
        for name in ("without_finally", "growth"):
            self.assertEqual(["program"], list(inspect.signature(getattr(module, name)).parameters))
        program = Program(main_of([("try", [], [], [("set", "x")])], {"x": "plain"}))
        self.assertEqual((without_finally(program), 3), (without_finally(program=program), growth(program=program)))
        self.assertEqual(Program(main_of([("try", [], [], [("set", "x")])], {"x": "plain"})), program)


if __name__ == "__main__":
    unittest.main()
