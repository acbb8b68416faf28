"""The main promise, [4] of the document, over programs at random."""

import random
import unittest

from surelyset.papers import is_paper, paper, shown
from surelyset.programs import Program
from surelyset.running import run
from surelyset.states import Checker
from surelyset.ways import least_steps, led, way
from tests.makers import SmallMaker
from tests.test_ways import seen_names

S, U = "set", "unset"


class PromiseTest(unittest.TestCase):
    def setUp(self):
        self.verdicts = {"never": 0, "sure": 0, "fault": 0}

    def test_just_one_holds(self):
        for seed in range(60):
            chance = random.Random(seed)
            program = Program(SmallMaker(chance, statements=15, functions=3, names=2, length=3).functions())
            checker = Checker(program)
            for spot in program.spots:
                names = seen_names(program, spot[0])
                for name in chance.sample(names, min(2, len(names))):
                    self.check(program, spot, name, checker.verdict(spot, name))
        self.assertGreater(min(self.verdicts.values()), 100)

    def check(self, program, spot, name, told):
        """Runs, the least table and ways tell the same."""
        self.verdicts[told] += 1
        word, *cell = [name] if isinstance(name, str) else name
        places = [(program.owner(spot[0], word), word, *cell)]
        table = paper(program, places)
        self.assertTrue(is_paper(program, places, table))
        rows = shown(program, places, table, spot)
        self.assertEqual("fault" if (U,) in rows else "sure" if rows else "never", told)
        found = {state: way(program, spot, (state,), name) for state in (S, U)}
        self.assertEqual([(state,) in rows for state in (S, U)], [found[state] is not None for state in (S, U)])
        for state in (S, U):
            if found[state] is not None:
                self.assertEqual(((state,), least_steps(program, spot, (state,), name)),
                                 led(program, spot, found[state], name)[:2])
        self.assertEqual(told == "never", way(program, spot, ()) is None)

    def test_runs_by_choices(self):
        """What is read in runs by choices is as the verdicts tell it."""
        events = 0
        for seed in range(80):
            chance = random.Random(seed)
            program = Program(SmallMaker(chance, statements=20, functions=3, names=3).functions())
            checker = Checker(program)
            for _ in range(15):
                told = run(program, [chance.choice([0, 1, 0, 1, 1]) for _ in range(60)], most=600)
                for spot, is_set in told.events:
                    statement = program.statement(spot)
                    if statement[0] == "read":
                        events += 1
                        self.assertIn(checker.verdict(spot, statement[1]), ("sure", "fault") if is_set else ("fault",))
        self.assertGreater(events, 300)


if __name__ == "__main__":
    unittest.main()
