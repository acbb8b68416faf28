"""What the document promises over the whole program: [1] to [4]."""

import copy
import importlib
import inspect
import random
import unittest

from surelyset.cells import ranges, read_ranges
from surelyset.cuts import bound, bound_for, cheapest, is_choice, settled
from surelyset.ends import ends, outcomes
from surelyset.initial import hopeless, initial, needed
from surelyset.papers import is_paper, paper, shown
from surelyset.plain import growth, without_finally
from surelyset.profiles import body_for, profile
from surelyset.programs import Program
from surelyset.running import run
from surelyset.states import Checker, faults, is_sound, states, verdict
from surelyset.ways import fault_way, least_steps, led, way
from tests.makers import SmallMaker
from tests.profiling import Closer, first_open
from tests.support import failure, main_of
from tests.test_cuts import free_spots, own_names
from tests.test_ways import seen_names

INTERFACE = """
programs: Program(functions)
programs.Program: statement(spot) owner(function,name) with_function(name,function) without(*names) of(*functions) read(text)
    is_word(value) __iter__() __len__() __contains__(x) __getitem__(at) __eq__(other)
running: run(program,choices,*,most=1000)
ends: outcomes(program,function) ends(program,function,*names)
cells: ranges(program,spot,array) read_ranges(program,spot)
states: states(program,spot,*names) verdict(program,spot,name) faults(program) is_sound(program) Checker(program)
states.Checker: __call__(spot,names=()) verdict(spot,name)
papers: paper(program,places) is_paper(program,places,value) shown(program,places,value,spot)
ways: way(program,spot,wanted,*names) least_steps(program,spot,wanted,*names) led(program,spot,value,*names)
    fault_way(program,spot,cell=None)
initial: needed(program) initial(program) hopeless(program)
cuts: cheapest(program,function,name,prices) bound_for(program,function,name,prices)
    bound(program,function,name,prices,value) is_choice(program,function,name,spots) settled(program,function,name,spots)
profiles: Profile(outcomes,reads) profile(program,function) body_for(profile) parting(one,other) probed(profile,probe)
profiles.Profile: __le__(other) __lt__(other) __ge__(other) __gt__(other) __eq__(other) __and__(other) __or__(other)
plain: without_finally(program) growth(program)
books: Book(program) GuardedBook(program,*guards) LoggedBook(program) GuardedLoggedBook(program,*guards)
books.Book: edit(program) remove(*names) undo(count=1) redo(count=1) faults() verdict(spot,name) trial() attempt(action)
    tried(action) __iter__() __getitem__(at) __setitem__(at,worth) __eq__(other)
"""
PROPERTIES = """programs.Program: functions names spots text
running.Run: events ending steps used
states.Checker: program
profiles.Profile: outcomes reads names
books.Book: program undoable redoable depth
books.GuardedBook: guards
books.LoggedBook: log
books.GuardedLoggedBook: guards log"""


def rows_of(text):
    """Tuples of the place and the list of what is listed for it."""
    for row in text.strip().replace("\n    ", " ").split("\n"):
        place, listed = row.split(": ")
        yield place, listed.split()


def found_at(place):
    module, *inner = place.split(".")
    found = importlib.import_module("surelyset." + module)
    return getattr(found, inner[0]) if inner else found


class InterfaceTest(unittest.TestCase):
    def test_arguments(self):
        for place, listed in rows_of(INTERFACE):
            owner = found_at(place)
            for each in listed:
                name, arguments = each[:-1].split("(", 1)
                found = vars(owner)[name]
                if isinstance(found, (staticmethod, classmethod)):
                    found = getattr(owner, name)
                    told = str(inspect.signature(found))
                else:
                    told = str(inspect.signature(found)).replace("(self, ", "(").replace("(self)", "()")
                self.assertEqual(f"({arguments})", told.replace(" ", "").replace("(self,", "("), each)

    def test_where_they_are_defined(self):
        for place, listed in rows_of(INTERFACE):
            if "." not in place:
                for each in listed:
                    found = getattr(found_at(place), each.split("(")[0])
                    self.assertEqual("surelyset." + place, found.__module__)

    def test_properties(self):
        for place, listed in rows_of(PROPERTIES):
            for name in listed:
                self.assertIsInstance(vars(found_at(place))[name], property, name)

    def test_by_name_only(self):
        with self.assertRaises(TypeError):
            run(Program(main_of([])), [], 5)


class Renaming:
    """Other words, for functions, names, counters and failures, in another order."""

    def __init__(self, chance, functions):
        self.chance = chance
        self.functions = self.fresh([name for name in functions if name != "main"])
        self.functions["main"] = "main"
        self.own = self.fresh(["a", "b", "x", "y", "z", "i", "j", "k"])
        self.fails = self.fresh(["u", "w"])

    def fresh(self, words):
        letters = self.chance.sample("abcdefghijklmnopqrstuvwxyz", len(words))
        return {word: letter * self.chance.randrange(1, 9) for word, letter in zip(words, letters)}

    def block(self, block):
        return self.chance.choice([list, tuple])(self.statement(statement) for statement in block)

    def statement(self, statement):
        head, *rest = statement
        if head == "call":
            return head, self.functions[rest[0]]
        if head == "fail":
            return head, self.fails[rest[0]]
        if head == "either":
            return (head, *map(self.block, rest))
        if head == "try":
            handlers = [([self.fails[word] for word in words], self.block(block)) for words, block in rest[1]]
            for words, _ in handlers:
                self.chance.shuffle(words)
            return head, self.block(rest[0]), handlers, self.block(rest[2])
        if head in ("while", "ever"):
            return head, self.block(rest[0])
        if head == "count":
            return head, self.own[rest[0]], rest[1], rest[2], self.block(rest[3])
        return (head, *map(self.name, rest))

    def name(self, name):
        if isinstance(name, tuple):
            return self.own[name[0]], name[1]
        return self.own[name] if isinstance(name, str) else name

    def program(self, program):
        functions = {}
        for name in self.chance.sample(program.names, len(program.names)):
            parent, names, body = program[name]
            words = self.chance.sample(list(names), len(names))
            functions[self.functions[name]] = (parent and self.functions[parent],
                                               {self.own[word]: copy.deepcopy(names[word]) for word in words}, self.block(body))
        return Program(functions)

    def spot(self, spot):
        return self.functions[spot[0]], spot[1]

    def outcome(self, outcome):
        return outcome if outcome[:5] != "fail " else "fail " + self.fails[outcome[5:]]

    def plans(self, value):
        plans, rows = value
        return tuple((self.functions[name], row) for name, row in plans), rows


class OtherWordsTest(unittest.TestCase):
    """The same program with other words and other orders gives the same answers."""

    def test_at_random(self):
        for seed in range(60):
            chance = random.Random(seed)
            maker = SmallMaker(chance, statements=chance.choice([8, 15]), functions=3, names=2, length=3)
            program = Program(maker.functions())
            renaming = Renaming(chance, program.functions)
            other = renaming.program(program)
            self.assertEqual(other, Program.read(other.text))
            self.compare_states(chance, program, other, renaming)
            self.compare_answers(program, other, renaming)
            self.compare_cuts(chance, program, other, renaming)
            self.compare_profiles(program, other, renaming)
            choices = [chance.choice([0, 1]) for _ in range(40)]
            one, two = run(program, choices), run(other, choices)
            self.assertEqual((tuple((renaming.spot(spot), is_set) for spot, is_set in one.events), one.steps, one.used),
                             (two.events, two.steps, two.used))

    def compare_states(self, chance, program, other, renaming):
        for spot in chance.sample(program.spots, min(4, len(program.spots))):
            seen = seen_names(program, spot[0])
            names = [chance.choice(seen) for _ in range(2)] if seen else []
            others = [renaming.name(name) for name in names]
            there = renaming.spot(spot)
            rows = states(program, spot, *names)
            self.assertEqual(rows, states(other, there, *others))
            for row in rows:
                self.assertEqual(least_steps(program, spot, row, *names), least_steps(other, there, row, *others))
                told = renaming.plans(way(program, spot, row, *names))
                self.assertEqual((row, least_steps(other, there, row, *others)), led(other, there, told, *others)[:2])
            for name, word in zip(names, others):
                self.assertEqual(verdict(program, spot, name), verdict(other, there, word))
                if isinstance(name, tuple):
                    self.assertEqual(ranges(program, spot, name[0]), ranges(other, there, word[0]))

    def compare_answers(self, program, other, renaming):
        self.assertEqual({(renaming.spot(spot), cells) for spot, cells in faults(program)}, set(faults(other)))
        self.assertEqual({(renaming.spot(spot), cells) for spot, cells in hopeless(program)}, set(hopeless(other)))
        want = {renaming.functions[name]: {renaming.own[word]: told for word, told in words.items()}
                for name, words in needed(program).items()}
        self.assertEqual(want, needed(other))
        self.assertEqual(growth(program), growth(other))
        for name in program.names:
            self.assertEqual({renaming.outcome(outcome) for outcome in outcomes(program, name)},
                             set(outcomes(other, renaming.functions[name])))
        for name, word in own_names(program):
            table = {renaming.functions[key]: (begins, {renaming.outcome(outcome): rows for outcome, rows in told.items()})
                     for key, (begins, told) in paper(program, [(name, word)]).items()}
            self.assertEqual(table, paper(other, [(renaming.functions[name], renaming.own[word])]))

    def compare_cuts(self, chance, program, other, renaming):
        for name, word in own_names(program):
            prices = {spot: chance.randrange(1, 9) for spot in free_spots(program, name) if chance.random() < 0.7}
            others = {renaming.spot(spot): prices[spot] for spot in chance.sample(list(prices), len(prices))}
            place = renaming.functions[name], renaming.own[word]
            told = cheapest(program, name, word, prices)
            self.assertEqual(told and told[0], (cheapest(other, *place, others) or [None])[0])
            if told is not None:
                shows = tuple((amount, tuple(map(renaming.spot, spots)))
                              for amount, spots in bound_for(program, name, word, prices))
                self.assertEqual(told[0], bound(other, *place, others, shows))
                self.assertTrue(is_choice(other, *place, [renaming.spot(spot) for spot in told[1]]))
                self.assertEqual(renaming.program(settled(program, name, word, list(told[1]))),
                                 settled(other, *place, [renaming.spot(spot) for spot in told[1][::-1]]))

    def compare_profiles(self, program, other, renaming):
        for name in program.names:
            if name != "main" and first_open(program.functions, name) is None:
                one, two = profile(program, name), profile(other, renaming.functions[name])
                want = {renaming.outcome(outcome): {renaming.own[word]: end for word, end in row.items()}
                        for outcome, row in one.outcomes.items()}
                self.assertEqual(want, two.outcomes)
                self.assertEqual({renaming.own[word]: read for word, read in one.reads.items()}, two.reads)


class OneMoreTest(unittest.TestCase):
    """A setting more brings no fault, a drop more takes none away."""

    def with_one_more(self, program, spot, statement):
        """The program with a statement more at the spot, and a dict from its spots to the old ones."""
        function, path = spot
        functions = program.functions
        parent, names, body = functions[function]
        functions[function] = (parent, names, self.with_row(body, path, statement))
        made = Program(functions)
        olds = {}
        for new in made.spots:
            many = len(path) - 1
            inner = new[1][many] if len(new[1]) > many else None
            if new[0] != function or new[1][:many] != path[:-1] or inner is None or inner < path[-1]:
                olds[new] = new
            elif inner > path[-1]:
                olds[new] = (function, (*path[:-1], inner - 1, *new[1][many + 1:]))
        self.assertEqual(set(program.spots), set(olds.values()))
        return made, olds

    def with_row(self, block, path, statement):
        at, *rest = path
        if not rest:
            return (*block[:at], statement, *block[at:])
        row = block[at]
        part, inner = rest[0], rest[1:]
        if row[0] == "either":
            row = (*row[:part + 1], self.with_row(row[part + 1], inner, statement), *row[part + 2:])
        elif row[0] != "try":
            row = (*row[:-1], self.with_row(row[-1], inner, statement))
        else:
            blocks = [row[1], *(block for _, block in row[2]), row[3]]
            blocks[part] = self.with_row(blocks[part], inner, statement)
            row = ("try", blocks[0], tuple((words, one) for (words, _), one in zip(row[2], blocks[1:])), blocks[-1])
        return (*block[:at], row, *block[at + 1:])

    def cells_of(self, told, olds=None):
        """The faults as a set of tuples of a spot and a cell."""
        found = set()
        for spot, cells in told:
            spot = spot if olds is None else olds.get(spot)
            for first, behind in cells or [(0, 1)]:
                found |= {(spot, cell) for cell in range(first, behind)}
        return found

    def test_at_random(self):
        less = more = 0
        for seed in range(600):
            chance = random.Random(seed)
            program = Program(SmallMaker(chance, statements=20, functions=3, names=2, length=3).functions())
            spot = chance.choice(program.spots)
            seen = seen_names(program, spot[0])
            if not seen:
                continue
            before = self.cells_of(faults(program))
            name = chance.choice(seen)
            heads = ("set", "drop") if isinstance(name, str) else ("put", "cut")
            rest = (name,) if isinstance(name, str) else name
            made, olds = self.with_one_more(program, spot, (heads[0], *rest))
            after = self.cells_of(faults(made), olds)
            self.assertLessEqual(after, before)
            less += after < before
            made, olds = self.with_one_more(program, spot, (heads[1], *rest))
            after = self.cells_of(faults(made), olds)
            self.assertGreaterEqual(after, before)
            more += after > before
        self.assertGreater(min(less, more), 10)

    def test_more_given_names(self):
        """With more given names there are no more faults, and what is needed stays so."""
        compared = 0
        for seed in range(120):
            chance = random.Random(seed)
            program = Program(SmallMaker(chance, statements=20, functions=3, names=2, length=3).functions())
            functions = program.functions
            for name, word in own_names(program):
                if chance.random() < 0.5:
                    functions[name][1][word] = "given"
            made = Program(functions)
            self.assertLessEqual(self.cells_of(faults(made)), self.cells_of(faults(program)))
            for name, words in needed(made).items():
                for word in words:
                    self.assertEqual(needed(program)[name][word], words[word])
                    compared += 1
            self.assertLessEqual(self.cells_of(hopeless(program)), self.cells_of(faults(made)))
        self.assertGreater(compared, 40)


class ConventionTest(unittest.TestCase):
    def test_equal_calls(self):
        """Equal calls on equal objects return equal answers, and new ones."""
        for seed in range(25):
            chance = random.Random(seed)
            functions = Closer(chance).functions()
            one, other = Program(functions), Program(copy.deepcopy(functions))
            told, again = self.answers(one), self.answers(other)
            self.assertEqual(told, again)
            self.shake(told)
            self.assertEqual(again, self.answers(one))

    def answers(self, program):
        spot = program.spots[len(program.spots) // 2]
        name, word = own_names(program)[0]
        prices = {each: 1 + at for at, each in enumerate(free_spots(program, name))}
        found = [faults(program), needed(program), hopeless(program), initial(program), growth(program),
                 paper(program, [(name, word)]), ends(program, "f"), states(program, spot), way(program, spot, ()),
                 cheapest(program, name, word, prices), bound_for(program, name, word, prices), profile(program, "f").outcomes,
                 profile(program, "f").reads, body_for(profile(program, "f")), program.functions, is_sound(program)]
        if failure(without_finally, program) is None:
            found.extend(without_finally(program))
        return found

    def shake(self, value):
        """Changes all dicts in a value."""
        parts = list(value.values()) if isinstance(value, dict) else value if isinstance(value, (list, tuple)) else []
        for part in parts:
            self.shake(part)
        if isinstance(value, dict):
            value.clear()

    def test_kinds_of_answers(self):
        """They are plain lists, tuples, dicts, strings and numbers."""
        for seed in range(25):
            program = Program(Closer(random.Random(seed)).functions())
            for answer in self.answers(program):
                self.check_kind(answer)

    def check_kind(self, value):
        self.assertIn(value.__class__, (tuple, dict, str, int, bool, None.__class__, Program))
        parts = [*value, *value.values()] if isinstance(value, dict) else value if isinstance(value, tuple) else []
        for part in parts:
            self.check_kind(part)
        if isinstance(value, dict):
            self.assertEqual(sorted(value), list(value))

    def test_other_kinds(self):
        """Objects are not equal to values of other kinds."""
        program = Program(main_of([]))
        objects = [program, run(program, []), profile(Program({**main_of([]), "f": (None, {}, [])}), "f")]
        for at, one in enumerate(objects):
            for value in [None, 1, "", (), [], {}, program.functions, *objects[:at], *objects[at + 1:]]:
                self.assertFalse(one == value)
                self.assertTrue(one != value)

    def test_a_fault_is_told_alike(self):
        """Faults, verdicts, ways, cells, needed values and choices fit together."""
        compared = 0
        for seed in range(60):
            chance = random.Random(seed)
            program = Program(SmallMaker(chance, statements=15, functions=3, names=2, length=3).functions())
            checker, told = Checker(program), dict(faults(program))
            self.assertEqual(is_sound(program), not told)
            for spot in program.spots:
                statement = program.statement(spot)
                if statement is not None and statement[0] == "read":
                    is_fault = checker.verdict(spot, statement[1]) == "fault"
                    self.assertEqual([is_fault] * 2, [spot in told, fault_way(program, spot) is not None])
                    compared += is_fault
                elif statement is not None and statement[0] == "look":
                    cells = tuple((first, behind) for first, behind, kind in read_ranges(program, spot) if kind == "fault")
                    self.assertEqual(told.get(spot, ()), cells)
            for name, word in own_names(program):
                reads = [spot for spot in told if program.statement(spot) == ("read", word) and program.owner(spot[0], word) == name]
                self.assertEqual(not reads, is_choice(program, name, word, []))
                self.assertEqual(not reads, cheapest(program, name, word, {}) is not None)
                table = paper(program, [(name, word)])
                self.assertTrue(is_paper(program, [(name, word)], table))
                for spot in reads:
                    self.assertIn(("unset",), shown(program, [(name, word)], table, spot))
        self.assertGreater(compared, 25)


if __name__ == "__main__":
    unittest.main()
