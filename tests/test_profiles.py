"""Profiles: [27] of the document."""

import copy
import inspect
import itertools
import random
import unittest

from surelyset import profiles as module
from surelyset.errors import NotClosed
from surelyset.profiles import Profile, body_for, parting, probed, profile
from surelyset.programs import Program
from surelyset.states import faults, states
from tests.makers import SmallMaker
from tests.plainly import TooMuch
from tests.profiling import ENDS, READS, Closer, first_open, inside, profiled
from tests.support import any_values, failure, main_of, sample

SIZE = 10 ** 30
P = Program(sample())
S, K, U = ENDS
NONE, ENTRY, ALWAYS = READS
OUTCOMES = ("done", "fail u", "fail w", "fail x", "fail y", "fail z")


def told(one):
    return one.outcomes, one.reads


def all_profiles(outcomes=("done", "fail w")):
    """All profiles with the one name x and some of these outcomes."""
    found = []
    for ends in itertools.product((None, *ENDS), repeat=len(outcomes)):
        rows = {outcome: {"x": end} for outcome, end in zip(outcomes, ends) if end is not None}
        found += [Profile(rows, {"x": read}) for read in READS]
    return found


def drawn_profile(chance, names, most=5):
    outcomes = chance.sample(OUTCOMES, chance.randrange(most + 1))
    rows = {outcome: {name: chance.choice(ENDS) for name in names} for outcome in outcomes}
    return Profile(rows, {name: chance.choice(READS) for name in names})


def is_at_most(one, other):
    """The second reading of one <= other."""
    if one.names != other.names or not set(one.outcomes) <= set(other.outcomes):
        return False
    ends = all(ENDS.index(end) <= ENDS.index(other.outcomes[outcome][name])
               for outcome, row in one.outcomes.items() for name, end in row.items())
    return ends and all(READS.index(one.reads[name]) <= READS.index(other.reads[name]) for name in one.names)


class ProfileClassTest(unittest.TestCase):
    def test_what_is_kept(self):
        outcomes = {"fail w": {"y": U, "x": K}, "done": {"x": S, "y": K}, "fail a": {"y": S, "x": S}}
        reads = {"y": NONE, "x": ALWAYS}
        one = Profile(outcomes, reads)
        before = copy.deepcopy((outcomes, reads))
        self.assertEqual((*before, ("x", "y")), (one.outcomes, one.reads, one.names))
        self.assertEqual((["done", "fail a", "fail w"], ["x", "y"]), (list(one.outcomes), list(one.reads)))
        self.assertEqual([["x", "y"]] * 3, [list(row) for row in one.outcomes.values()])
        outcomes["done"]["x"] = U
        outcomes.clear()
        reads["x"] = NONE
        one.outcomes["done"]["x"] = U
        one.outcomes.clear()
        one.reads.clear()
        self.assertEqual(before, told(one))

    def test_nothing_at_all(self):
        self.assertEqual(({}, {}, ()), (Profile({}, {}).outcomes, Profile({}, {}).reads, Profile({}, {}).names))
        self.assertEqual({"x": ENTRY}, Profile({}, {"x": ENTRY}).reads)
        self.assertEqual({"done": {}}, Profile({"done": {}}, {}).outcomes)

    def test_wrong_outcomes(self):
        for outcomes in ({"back": {}}, {"leave": {}}, {"fail": {}}, {"fail ": {}}, {"fail W": {}}, {"fail w w": {}},
                         {"fail abcdefghi": {}}, {1: {}}, {None: {}}, {"done": []}, {"done": None}, {"done": ()},
                         {"done": {"x": "none"}}, {"done": {"x": None}}, {"done": {"x": 1}}, {"done": {"x": [S]}},
                         {"done": {"X": S}}, {"done": {1: S}}, {"done": {"": S}}, {"done": {"x": S}, "fail w": {}},
                         {"done": {"x": S}, "fail w": {"y": S}}, {"done": {"x": S}, "fail w": {"x": S, "y": S}},
                         [("done", {})], {"done": {("x",): S}}, {"done": {"x": "entry"}}, {"done": {"x": True}}):
            for reads in ({}, 1, {"x": NONE}):
                self.assertEqual(("InvalidProfile", {"value": outcomes}), failure(Profile, outcomes, reads))

    def test_wrong_reads(self):
        for outcomes, words in (({"done": {"x": S}}, "x"), ({"done": {"x": S}, "fail w": {"x": K}}, "x"), ({"done": {}}, "")):
            for reads in ({"x": "set"}, {"x": None}, {"x": 1}, {"x": [NONE]}, {"y": NONE}, {"x": NONE, "y": NONE}, {"X": NONE},
                          {"x": False}, [], (), None, "x", {1: NONE}, [("x", NONE)], ({"x": NONE},)):
                self.assertEqual(("InvalidProfile", {"value": reads}), failure(Profile, outcomes, reads))
            self.assertIsNone(failure(Profile, outcomes, {word: ENTRY for word in words}))
        for reads in ({"x": "keep"}, {"X": NONE}, {None: NONE}, {"x": {}}):
            self.assertEqual(("InvalidProfile", {"value": reads}), failure(Profile, {}, reads))

    def test_any_values(self):
        for value in any_values():
            if value != {}:
                want = ("InvalidProfile", {"value": value})
                self.assertEqual([want, want], [failure(Profile, value, value), failure(Profile, {}, value)])
                self.assertEqual(want, failure(Profile, {"done": {}}, value))
            wrong = {"done": value}
            self.assertEqual(None if value == {} else ("InvalidProfile", {"value": wrong}), failure(Profile, wrong, {}))
            wrong = {"done": {"x": value}}
            self.assertEqual(("InvalidProfile", {"value": wrong}), failure(Profile, wrong, 1))
            wrong = {"x": value}
            self.assertEqual(("InvalidProfile", {"value": wrong}), failure(Profile, {"done": {"x": K}}, wrong))

    def test_other_kinds(self):
        one = Profile({"done": {}}, {})
        for value in [*any_values(), P, Profile({}, {})]:
            self.assertFalse(one == value)
            self.assertTrue(one != value)
        self.assertTrue(one == Profile({"done": {}}, {}))

    def test_all_pairs(self):
        """The order is that of the levels; & and | are the greatest and the least."""
        profiles = all_profiles()
        self.assertEqual(48, len(profiles))
        before = copy.deepcopy([told(one) for one in profiles])
        for one in profiles:
            for other in profiles:
                less, more = is_at_most(one, other), is_at_most(other, one)
                same = less and more
                self.assertEqual((less, less and not same, more, more and not same, same),
                                 (one <= other, one < other, one >= other, one > other, one == other))
                both, either = one & other, one | other
                self.assertTrue(both <= one and both <= other and one <= either and other <= either)
                self.assertTrue(all(third <= both for third in profiles if third <= one and third <= other))
                self.assertTrue(all(either <= third for third in profiles if one <= third and other <= third))
        self.assertEqual(before, [told(one) for one in profiles])

    def test_pairs_at_random(self):
        chance = random.Random(1)
        for _ in range(300):
            names = chance.choice(["x", "xy", "xyz"])
            one, other = drawn_profile(chance, names), drawn_profile(chance, names)
            self.assertEqual(is_at_most(one, other), one <= other)
            both, either = one & other, one | other
            self.assertTrue(both <= one <= either and both <= other <= either)
            for outcome in OUTCOMES:
                is_in = [outcome in each.outcomes for each in (one, other)]
                self.assertEqual((all(is_in), any(is_in)), (outcome in both.outcomes, outcome in either.outcomes))
                for name in names:
                    levels = [ENDS.index(each.outcomes[outcome][name]) for each in (one, other) if outcome in each.outcomes]
                    if all(is_in):
                        self.assertEqual(ENDS[min(levels)], both.outcomes[outcome][name])
                    if any(is_in):
                        self.assertEqual(ENDS[max(levels)], either.outcomes[outcome][name])
            for name in names:
                levels = [READS.index(each.reads[name]) for each in (one, other)]
                self.assertEqual((READS[min(levels)], READS[max(levels)]), (both.reads[name], either.reads[name]))

    def test_other_names(self):
        one, other = Profile({"done": {"x": S}}, {"x": NONE}), Profile({"done": {"y": S}}, {"y": NONE})
        for left, right in ((one, other), (other, one), (one, Profile({}, {})), (Profile({}, {}), Profile({}, {"x": NONE}))):
            self.assertEqual([False] * 5, [left <= right, left < right, left >= right, left > right, left == right])
            want = "InvalidProfile", {"value": right}
            self.assertEqual([want] * 2, [failure(lambda: left & right), failure(lambda: left | right)])
            self.assertEqual(want, failure(parting, left, right))

    def test_own_methods(self):
        own = vars(Profile)
        for name in ("__init__", "__le__", "__lt__", "__ge__", "__gt__", "__eq__", "__and__", "__or__"):
            self.assertTrue(inspect.isfunction(own[name]), name)
        for name in ("outcomes", "reads", "names"):
            self.assertIsInstance(own[name], property)


class ToldTest(unittest.TestCase):
    def told(self, functions, name="f"):
        return told(profile(Program(functions), name))

    def test_example(self):
        one = profile(P, "f")
        self.assertEqual({"done": {"x": K, "y": K}, "fail w": {"x": K, "y": K}}, one.outcomes)
        self.assertEqual({"x": NONE, "y": NONE}, one.reads)
        self.assertTrue(one <= Profile({"done": {"x": U, "y": K}, "fail w": {"x": K, "y": K}}, {"x": NONE, "y": ENTRY}))

    def test_worst_ends_by_outcome(self):
        body = [("either", [("set", "x")], [("drop", "x"), ("fail", "u")], [("back",)], [("set", "x"), ("fail", "u")],
                 [("set", "x"), ("fail", "w")])]
        functions = {**main_of([], {"x": "plain", "y": "given"}), "f": ("main", {}, body)}
        self.assertEqual(({"done": {"x": K, "y": K}, "fail u": {"x": U, "y": K}, "fail w": {"x": S, "y": K}},
                          {"x": NONE, "y": NONE}), self.told(functions))

    def test_reads(self):
        for body, read in (([], NONE), ([("read", "x")], ENTRY), ([("set", "x"), ("read", "x")], NONE),
                           ([("drop", "x"), ("read", "x")], ALWAYS), ([("read", "x"), ("drop", "x")], ENTRY),
                           ([("drop", "x"), ("set", "x"), ("read", "x")], NONE),
                           ([("either", [("set", "x")], []), ("read", "x")], ENTRY),
                           ([("either", [("drop", "x")], [("set", "x")]), ("read", "x")], ALWAYS),
                           ([("while", [("read", "x"), ("drop", "x")])], ALWAYS),
                           ([("count", "v", 0, 1, [("read", "x"), ("drop", "x")])], ENTRY),
                           ([("count", "v", 0, SIZE, [("read", "x"), ("drop", "x")])], ALWAYS),
                           ([("ever", []), ("read", "x")], NONE), ([("back",), ("read", "x")], NONE),
                           ([("try", [("drop", "x"), ("fail", "w")], [([], [])], [("read", "x")])], ALWAYS),
                           ([("read", "x"), ("ever", [])], ENTRY)):
            functions = {**main_of([], {"x": "plain"}), "f": ("main", {}, body)}
            self.assertEqual({"x": read}, self.told(functions)[1], body)

    def test_functions_that_are_called(self):
        functions = {**main_of([], {"x": "plain", "y": "plain"}),
                     "f": ("main", {"p": "plain"}, [("call", "g"), ("call", "h")]),
                     "g": ("f", {}, [("either", [("drop", "x"), ("call", "f")], [("set", "y")])]),
                     "h": ("g", {}, [("read", "x"), ("read", "p")])}
        functions["h"] = ("f", *functions["h"][1:])
        self.assertEqual(({"done": {"x": U, "y": S}}, {"x": ALWAYS, "y": NONE}), self.told(functions))
        # For g, x and y are told, and p of f; it calls f, which is around it.
        self.assertEqual(("NotClosed", {"spot": ("g", (0, 0, 1))}), failure(profile, Program(functions), "g"))
        self.assertEqual(({"done": {"p": K, "x": K, "y": K}}, {"p": ENTRY, "x": ENTRY, "y": NONE}), self.told(functions, "h"))

    def test_calls_of_itself(self):
        functions = {**main_of([], {"x": "plain"}),
                     "f": ("main", {}, [("either", [("drop", "x"), ("call", "f"), ("set", "x")], [("read", "x")])])}
        self.assertEqual(({"done": {"x": K}}, {"x": ALWAYS}), self.told(functions))
        functions["f"] = ("main", {}, [("call", "f"), ("read", "x")])
        self.assertEqual(({}, {"x": NONE}), self.told(functions))

    def test_own_names_hide(self):
        functions = {**main_of([], {"x": "plain", "y": "plain"}), "f": ("main", {"x": "plain"}, [("drop", "x"), ("read", "x"),
                                                                                             ("call", "g")]),
                     "g": ("f", {"y": "given"}, [("drop", "y"), ("drop", "x")])}
        self.assertEqual(({"done": {"x": K, "y": K}}, {"x": NONE, "y": NONE}), self.told(functions))

    def test_arrays(self):
        """What an array of a nearer function hides is no name of the parent; arrays of its own are no matter."""
        functions = {**main_of([], {"x": "plain", "a": (3, ()), "y": "plain"}),
                     "g": ("main", {"y": (SIZE, ()), "a": "plain"}, []),
                     "f": ("g", {"b": (3, ())}, [("put", "b", 1), ("look", "b", 0), ("set", "a")])}
        self.assertEqual(({"done": {"a": S, "x": K}}, {"a": NONE, "x": NONE}), self.told(functions))
        functions["f"][2].append(("while", [("look", "y", 0)]))
        self.assertEqual(("NotClosed", {"spot": ("f", (3, 0, 0))}), failure(profile, Program(functions), "f"))
        functions["f"] = ("g", {}, [("read", "x")])
        functions["e"] = ("f", {}, [("cut", "y", SIZE - 1)])
        self.assertEqual(("NotClosed", {"spot": ("e", (0,))}), failure(profile, Program(functions), "f"))
        self.assertEqual(("NotClosed", {"spot": ("e", (0,))}), failure(profile, Program(functions), "e"))
        functions["f"] = ("g", {"y": (SIZE, ())}, [("read", "x")])
        self.assertEqual(({"done": {"a": K, "x": K}}, {"a": NONE, "x": ENTRY}), self.told(functions))

    def test_no_parent(self):
        functions = {**main_of([], {"x": "plain"}), "f": (None, {"y": "plain"}, [("read", "y"), ("fail", "w")])}
        self.assertEqual(({"fail w": {}}, {}), self.told(functions))
        functions["f"][2].insert(0, ("call", "f"))
        self.assertEqual(({}, {}), self.told(functions))

    def test_functions_that_are_not_called(self):
        """Runs of a function are what calls of it do, whether some run calls it or not."""
        functions = {**main_of([], {"x": "plain"}), "f": ("main", {}, [("drop", "x"), ("read", "x")])}
        self.assertEqual(({"done": {"x": U}}, {"x": ALWAYS}), self.told(functions))

    def test_not_closed(self):
        functions = {**main_of([], {"x": "plain", "a": (2, ())}), "g": (None, {}, []), "h": ("main", {}, []),
                     "f": ("main", {}, [("either", [], [("call", "e")]), ("call", "f")]), "e": ("f", {}, [("call", "f")])}
        self.assertIsNone(failure(profile, Program(functions), "f"))
        for name, statement in (("f", ("call", "g")), ("f", ("call", "h")), ("f", ("call", "main")), ("e", ("call", "h")),
                                ("e", ("call", "main")), ("e", ("put", "a", 0)), ("f", ("look", "a", 1))):
            parent, names, body = functions[name]
            program = Program({**functions, name: (parent, names, [*body, statement])})
            self.assertEqual(("NotClosed", {"spot": (name, (len(body),))}), failure(profile, program, "f"))
        more = {"f": ("main", {}, [("call", "g"), ("call", "g")]), "e": ("f", {}, [("call", "e"), ("either", [], [("call", "g")])])}
        self.assertEqual(("NotClosed", {"spot": ("e", (1, 1, 0))}), failure(profile, Program({**functions, **more}), "f"))

    def test_any_functions(self):
        for value in any_values():
            want = None if value == "f" else ("UnknownFunction", {"value": value})
            self.assertEqual(want, failure(profile, P, value))

    def test_at_random(self):
        """Closed functions with children, as the second reading tells them."""
        count = {level: 0 for level in (*ENDS, *READS)}
        for seed in range(250):
            chance = random.Random(seed)
            program = Program(Closer(chance, statements=chance.choice([10, 20, 30])).functions())
            self.assertEqual(None, first_open(program.functions, "f"))
            self.count(count, self.compare(program, "f", seed))
        self.assertGreater(min(count.values()), 20)

    def count(self, count, one):
        if one is not None:
            for row in [*one.outcomes.values(), one.reads]:
                for level in row.values():
                    count[level] += 1

    def compare(self, program, name, seed):
        try:
            want = profiled(program.functions, name)
        except TooMuch:
            return None
        one = profile(program, name)
        self.assertEqual(want, told(one), (seed, name))
        self.assertEqual([sorted(one.outcomes), sorted(one.reads)], [list(one.outcomes), list(one.reads)])
        return one

    def test_any_programs_at_random(self):
        closed = wrong = 0
        for seed in range(200):
            chance = random.Random(seed)
            program = Program(SmallMaker(chance, statements=chance.choice([6, 12]), functions=3, names=2).functions())
            for name in program.names:
                if name != "main":
                    spot = first_open(program.functions, name)
                    if spot is None:
                        closed += self.compare(program, name, seed) is not None
                    else:
                        wrong += 1
                        with self.assertRaises(NotClosed) as raised:
                            profile(program, name)
                        self.assertEqual(spot, raised.exception.spot)
        self.assertGreater(min(closed, wrong), 60)


class BodyTest(unittest.TestCase):
    def check(self, one):
        """The body has just this profile, as the package and as the second reading tell it."""
        body = body_for(one)
        functions = {"main": (None, {name: "plain" for name in one.names[:8]}, []), "f": ("main", {}, body)}
        if len(one.names) > 8:
            functions["g"] = ("main", {name: "plain" for name in one.names[8:]}, [])
            functions["f"] = ("g", {}, body)
        program = Program(functions)
        self.assertEqual(body, program["f"][2])
        self.assertEqual(one, profile(program, "f"))
        self.assertEqual(told(one), profiled(functions, "f"))
        self.assertLessEqual(len(program), 120)
        self.assertLessEqual(max(len(path) // 2 + 1 for name, path in program.spots if name == "f"), 5)
        hash(body)

    def test_one_name(self):
        for one in all_profiles():
            self.check(one)

    def test_at_random(self):
        chance = random.Random(2)
        for _ in range(150):
            self.check(drawn_profile(chance, "abcdefghij"[:chance.randrange(11)]))

    def test_greatest(self):
        for level, read in itertools.product(ENDS, READS):
            one = Profile({outcome: {name: level for name in "abcdefghij"} for outcome in OUTCOMES[:5]},
                          {name: read for name in "abcdefghij"})
            self.check(one)

    def test_no_names(self):
        for many in range(6):
            self.check(Profile({outcome: {} for outcome in OUTCOMES[:many]}, {}))
            self.check(Profile({outcome: {} for outcome in OUTCOMES[1:1 + many]}, {}))

    def test_too_many(self):
        names = "abcdefghijk"
        six = Profile({outcome: {} for outcome in OUTCOMES}, {})
        eleven = Profile({}, {name: NONE for name in names})
        both = Profile({outcome: {name: K for name in names} for outcome in OUTCOMES}, {name: NONE for name in names})
        self.assertEqual([("TooMany", {"limit": 5}), ("TooMany", {"limit": 10}), ("TooMany", {"limit": 5})],
                         [failure(body_for, one) for one in (six, eleven, both)])

    def test_profiles_of_programs(self):
        """The body for a function's profile may take the place of its own one."""
        for seed in range(60):
            program = Program(Closer(random.Random(seed)).functions())
            one = profile(program, "f")
            functions = {name: program[name] for name in program.names if name not in inside(program.functions, "f")}
            functions["f"] = (program["f"][0], {}, body_for(one))
            self.assertEqual(one, profile(Program(functions), "f"))


class ExchangeTest(unittest.TestCase):
    """Exchanging a body for one with a profile at most the old one brings no fault."""

    def check(self, program, functions):
        old, new = self.faults(program), self.faults(Program(functions))
        self.assertLessEqual(new[0], old[0])
        self.assertLessEqual(new[1], old[1])
        return len(old[0]) - len(new[0])

    def faults(self, program):
        """The spots of faults out of f and its children, and the names of functions around f of those in it."""
        own = inside(program.functions, "f")
        without, within = set(), set()
        for spot, _ in faults(program):
            word = program.statement(spot)[1]
            owner = program.owner(spot[0], word)
            if spot[0] not in own:
                without.add(spot)
            elif owner not in own:
                within.add((owner, word))
        return without, within

    def test_bodies_for_lesser_profiles(self):
        mended = 0
        for seed in range(200):
            chance = random.Random(seed)
            program = Program(Closer(chance, statements=25).functions())
            one = profile(program, "f")
            less = one & drawn_profile(chance, one.names)
            self.assertTrue(less <= one)
            functions = {name: program[name] for name in program.names if name not in inside(program.functions, "f")}
            for each in (one, less):
                mended += self.check(program, {**functions, "f": (program["f"][0], {}, body_for(each))})
        self.assertGreater(mended, 20)

    def test_other_functions(self):
        """With own names and children of its own."""
        compared = 0
        made = {}
        for seed in range(300):
            chance = random.Random(seed)
            maker = Closer(chance, statements=chance.choice([8, 16]), children="abc" if seed % 2 else "hij")
            program = Program(maker.functions({"x": "plain"}))
            if program["g"][1].keys() <= {"p"}:
                made.setdefault((seed % 2, profile(program, "f").names), []).append(program)
        for _, names in list(made):
            for program, other in itertools.product(made.get((0, names), []), made.get((1, names), [])):
                if profile(other, "f") <= profile(program, "f"):
                    functions = {name: program[name] for name in program.names if name not in inside(program.functions, "f")}
                    for name in inside(other.functions, "f"):
                        functions[name] = other[name]
                    self.check(program, functions)
                    compared += 1
        self.assertGreater(compared, 100)


class ProbeTest(unittest.TestCase):
    def probes(self, names, outcomes=OUTCOMES[:3]):
        found = [(None, outcome, None) for outcome in outcomes]
        for state in ("set", "unset"):
            for name in names:
                found += [(state, outcome, name) for outcome in (None, *outcomes)]
        return found

    def can(self, one, probe):
        """Whether a function of the profile can do this, as faults and states of a program with it tell it."""
        state, outcome, name = probe
        body = [] if state is None else [({"set": "set", "unset": "drop"}[state], name)]
        behind = [] if name is None else [("read", name)]
        if outcome is None or outcome == "done":
            body += [("call", "f"), *behind]
            spot = ("main", (len(body) - len(behind),))
        else:
            spot = ("main", (len(body), 1, 0))
            body += [("try", [("call", "f")], [([outcome[5:]], behind)], [])]
        program = Program({"main": (None, {each: "given" for each in one.names}, body), "f": ("main", {}, body_for(one))})
        if outcome is None:
            return any(spot[0] == "f" and program.statement(spot)[1] == name for spot, _ in faults(program))
        if name is None:
            return states(program, spot) != ()
        return ("unset",) in states(program, spot, name)

    def test_one_name(self):
        for one in all_profiles():
            for probe in self.probes("x"):
                self.assertIs(self.can(one, probe), probed(one, probe), (told(one), probe))

    def test_at_random(self):
        chance = random.Random(3)
        for _ in range(40):
            one = drawn_profile(chance, "xyz")
            for probe in chance.sample(self.probes("xyz", OUTCOMES), 12):
                self.assertIs(self.can(one, probe), probed(one, probe))

    def test_partings(self):
        profiles = all_profiles()
        seen = set()
        for one in profiles:
            for other in profiles:
                self.check(one, other, seen)
        self.assertEqual(set(self.probes("x", ("done", "fail w"))), seen | {("unset", "done", "x"), ("unset", "fail w", "x"),
                                                                           ("set", "done", "x"), ("set", "fail w", "x")})

    def test_partings_at_random(self):
        chance, seen = random.Random(4), set()
        for _ in range(500):
            names = "xyz"[:chance.randrange(4)]
            self.check(drawn_profile(chance, names), drawn_profile(chance, names), seen)
        one = Profile({"done": {"x": K, "y": U}}, {"x": ENTRY, "y": ALWAYS})
        for other in (Profile({"done": {"x": S, "y": U}}, one.reads), Profile({"done": {"x": K, "y": K}}, one.reads),
                      Profile(one.outcomes, {"x": NONE, "y": ALWAYS}), Profile(one.outcomes, {"x": ALWAYS, "y": ENTRY}),
                      Profile({}, one.reads)):
            self.check(one, other, seen)
            self.assertFalse(one <= other)

    def check(self, one, other, seen):
        probe = parting(one, other)
        self.assertEqual(one <= other, probe is None)
        if probe is not None:
            self.assertEqual((True, False), (probed(one, probe), probed(other, probe)))
            seen.add(probe)

    def test_any_probes(self):
        one = Profile({"done": {"x": K}}, {"x": ENTRY})
        for value in any_values():
            want = ("InvalidStates", {"value": value})
            self.assertEqual(want, failure(probed, one, value))
            for probe in ((value, "done", "x"), ("set", value, "x"), ("set", "done", value), (None, value, None),
                          (None, "done", value), (value, None, "x"), ("set", None, value), (value, "done", None)):
                if probe not in (("set", None, "x"), ("set", "done", "x"), (None, "done", None)):
                    self.assertEqual(("InvalidStates", {"value": probe}), failure(probed, one, probe), probe)

    def test_wrong_probes(self):
        one = Profile({"done": {"x": K}}, {"x": ENTRY})
        for probe in (["set", "done", "x"], ("set", "done"), ("set", "done", "x", 1), ("keep", "done", "x"), ("set", "back", "x"),
                      ("set", "fail", "x"), ("set", "done", "y"), (None, None, None), (None, "done", "x"), (None, None, "x"),
                      ("set", None, None), ("unset", "done", None), ("set", "leave", "x"), (None, "back", None)):
            self.assertEqual(("InvalidStates", {"value": probe}), failure(probed, one, probe))
        for probe in (("set", "fail abcdefgh", "x"), (None, "fail w", None), ("unset", "fail w", "x")):
            self.assertIs(False, probed(one, probe))


class ArgumentTest(unittest.TestCase):
    def test_arguments(self):
        names = {"profile": "program function", "body_for": "profile", "parting": "one other", "probed": "profile probe",
                 "Profile": "outcomes reads"}
        for name, want in names.items():
            self.assertEqual(want.split(), list(inspect.signature(getattr(module, name)).parameters))
        one = Profile(reads={"x": NONE}, outcomes={"done": {"x": U}})
        other = Profile(outcomes={"done": {"x": K}}, reads={"x": NONE})
        self.assertEqual(profile(P, "f"), profile(function="f", program=P))
        self.assertEqual(body_for(one), body_for(profile=one))
        self.assertEqual(("set", "done", "x"), parting(other=other, one=one))
        self.assertTrue(probed(probe=("set", "done", "x"), profile=one))
        self.assertEqual(Program(sample()), P)


if __name__ == "__main__":
    unittest.main()
