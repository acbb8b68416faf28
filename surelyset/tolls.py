"""Diagrams that tell the least numbers of steps, and how they come about.

A leaf stands for a table: a dict from codes to tuples (steps, trace), how something does what the code tells with
the least steps. 0 is the leaf of the empty table, KEPT the one of doing nothing in no step.
"""

from surelyset.diagrams import Diagrams
from surelyset.marks import KEEP, KEPT, code_followed, codes_within
from surelyset.traces import NOTHING

# In as many rounds as there may be places each of them can have been last set or dropped in one of its own.
MOST_LAST = 3


class Tolls(Diagrams):
    """Diagrams with such leaves."""

    def __init__(self, traces):
        Diagrams.__init__(self)
        self.traces = traces
        self.tables = [{}, {KEEP: (0, NOTHING)}]
        self.leaves = {(): 0, ((KEEP, 0, NOTHING),): KEPT}
        self.wraps = {}
        self.powers = {}
        self.merges = {}
        self.step = self.leaf_of({KEEP: (1, NOTHING)})

    def leaf_of(self, table):
        """The leaf of a table."""
        key = tuple([(code, *table[code]) for code in sorted(set(table))])
        if key not in self.leaves:
            self.leaves[key] = len(self.tables)
            self.tables.append({code: table[code] for code in table})
        return self.leaves[key]

    def leaf(self, code):
        """The leaf for doing what the code tells in no step."""
        return self.leaf_of({code: (0, NOTHING)})

    def leaf_followed(self, one, other):
        """What two leaves do one after the other."""
        best = {}
        second = self.tables[other]
        first = self.tables[one]
        for before in first:
            steps, trace = first[before]
            for behind in second:
                more, other_trace = second[behind]
                keep_least(best, code_followed(before, behind), (steps + more, trace, other_trace))
        return self.leaf_of({code: self.told(best[code]) for code in best})

    def told(self, row):
        """The steps and the trace of a tuple (steps, trace, trace behind it)."""
        steps, trace, other = row
        return steps, self.traces.joined(trace, other)

    def leaf_joined(self, one, other):
        """What one leaf or the other one does."""
        key = (one, other)
        if key not in self.merges:
            best = {code: self.tables[one][code] for code in self.tables[one]}
            for code in self.tables[other]:
                keep_least(best, code, self.tables[other][code])
            self.merges[key] = self.leaf_of(best)
        return self.merges[key]

    def wrapped(self, one, tag):
        """The same as a part, of this kind, of what is around it."""
        key = (one, tag)
        if key not in self.wraps:
            if one < 0:
                branches = [self.wrapped(branch, tag) for branch in self.branches[one]]
                self.wraps[key] = self.made(self.ranks[one], branches)
            else:
                table = self.tables[one]
                told = {code: (table[code][0], self.traces.alone(tag, table[code][1])) for code in table}
                self.wraps[key] = self.leaf_of(told)
        return self.wraps[key]

    def repeated(self, turn, rounds):
        """What is done by so many rounds, each of which does this."""
        key = (turn, rounds)
        if key not in self.powers:
            if turn < 0:
                branches = [self.repeated(branch, rounds) for branch in self.branches[turn]]
                self.powers[key] = self.made(self.ranks[turn], branches)
            else:
                self.powers[key] = self.leaf_repeated(turn, rounds)
        return self.powers[key]

    def leaf_repeated(self, turn, rounds):
        """As repeated, for a leaf.

        The rounds in which some place is set or dropped last stand behind all others, which may then be alike:
        those with the least steps that come to no place but those.
        """
        best = {}
        last = KEPT
        table = self.tables[turn]
        for many in range(min(int(rounds), MOST_LAST) + 1):
            for code in self.tables[last]:
                steps, trace = self.tables[last][code]
                if many == rounds:
                    keep_least(best, code, (steps, NOTHING, trace))
                    continue
                for fewer in codes_within(code):
                    if fewer in table:
                        more, one_round = table[fewer]
                        others = self.traces.often(one_round, rounds - many)
                        keep_least(best, code, (steps + more * (rounds - many), others, trace))
            last = self.followed(last, turn)
        return self.leaf_of({code: self.told(best[code]) for code in best})


def keep_least(table, key, row):
    """Puts the row into a table of tuples, if there is no lesser one."""
    if key not in table or row < table[key]:
        table[key] = row
