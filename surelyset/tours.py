"""Tours: the runs with the least steps that do something to a few places, or come to a spot with states of them."""

from surelyset.effects import Effects
from surelyset.holdings import Holding
from surelyset.marks import code_followed, thinned
from surelyset.reaches import Reach
from surelyset.tolls import Tolls, keep_least
from surelyset.traces import NOTHING, Traces


class Tour:
    """The tours of a program, by its outline, for different places, whose owners stand in one line.

    plans is a dict from functions to dicts from outcomes to tables, dicts from codes of ends to tuples (steps, trace)
    of a whole run. begins is a dict from tuples (function, state) to tuples (steps, key of the caller, trace to the
    call), the latter two None for main at its start.
    """

    def __init__(self, outline, places):
        self.outline = outline
        self.traces = Traces()
        self.tolls = Tolls(self.traces)
        self.holding = Holding(outline, places)
        self.plans = {name: {} for name in outline.bodies}
        self.ends = {name: {} for name in outline.bodies}
        self.effects = Effects(outline, self.tolls, places, self.ends)
        self.settle()
        self.reach = Reach(outline, self.effects)
        self.begins = {}
        self.begin()

    def settle(self):
        """Finds the plans of all functions.

        The steps only become less, and a plan has more steps than those that it calls. So plans of which the steps
        are settled call plans with less steps, and none calls itself.
        """
        callers = self.outline.callers()
        waiting = list(self.outline.bodies)
        while waiting:
            name = waiting.pop(0)
            plans = self.body_plans(name)
            if steps_of(plans) != steps_of(self.plans[name]):
                self.ends[name] = {outcome: self.call_leaf(name, outcome, plans[outcome]) for outcome in plans}
                for caller in callers[name]:
                    if caller not in waiting:
                        waiting.append(caller)
            self.plans[name] = plans

    def body_plans(self, name):
        """The plans of a function by those that are known of the functions that it calls."""
        effect = self.effects.of_part(self.outline.bodies[name])
        plans = {}
        for outcome in effect:
            # No count is around the body: its diagrams are leaves.
            table = self.tolls.tables[effect[outcome]]
            told = plans.setdefault("done" if outcome == "back" else outcome, {})
            for code in table:
                keep_least(told, thinned(code, self.holding.outer[name]), table[code])
        return plans

    def call_leaf(self, name, outcome, table):
        """The leaf of a call that comes to an end with this outcome, as one of these plans."""
        told = {code: (table[code][0], self.traces.alone(("call", name, outcome, code), NOTHING)) for code in table}
        return self.tolls.leaf_of(told)

    def begin(self):
        """Finds the begins of the functions, those with fewer steps first."""
        waiting = {("main", self.holding.starts["main"]): (0, None, None)}
        while waiting:
            least = None
            for key in waiting:
                if least is None or waiting[key][0] < waiting[least][0]:
                    least = key
            self.begins[least] = waiting.pop(least)
            for key, row in self.calls_from(least):
                if key not in self.begins and (key not in waiting or row[0] < waiting[key][0]):
                    waiting[key] = row

    def calls_from(self, begin):
        """Tuples of a key and a row, as begins has them, of the calls in a function that begins like this."""
        name, state = begin
        found = []
        for node in self.outline.calls[name]:
            called = node.row[1]
            table = self.table_at(node.spot)
            for code in table:
                steps, trace = table[code]
                behind = thinned(code_followed(state, code), self.holding.outer[called]) + self.holding.starts[called]
                # The call itself is a step.
                found.append(((called, behind), (self.begins[begin][0] + steps + 1, begin, trace)))
        return found

    def table_at(self, spot):
        """The table of what runs of the spot's function did when they come there, in any rounds."""
        return self.table_of(self.reach.done_at(spot))

    def table_of(self, done):
        """The table of a diagram, in any rounds."""
        return self.tolls.tables[self.tolls.flat(done)]

    def found(self, function, table, wanted):
        """How a run comes to a spot of the function, where it has this table, with the wanted state.

        A tuple (steps, key of begins, trace in the function), None if there is none.
        """
        best = {}
        for key in self.begins:
            if key[0] == function:
                for code in table:
                    if code_followed(key[1], code) == wanted:
                        steps, trace = table[code]
                        keep_least(best, wanted, (self.begins[key][0] + steps, key, trace))
        return best.get(wanted)


def steps_of(plans):
    """The numbers of steps of plans."""
    return {outcome: {code: plans[outcome][code][0] for code in plans[outcome]} for outcome in plans}
