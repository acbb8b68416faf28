"""Studies: what all runs of a program do to a few places, and with which states of them they come to spots."""

from surelyset.effects import Effects
from surelyset.holdings import Holding
from surelyset.marks import mapped
from surelyset.reaches import Reach


class Study:
    """A study of a program, by its outline, and of different places, whose owners stand in one line.

    If all is fresh, states tell what was neither set nor dropped in its frame, nor given, as none. ends is a dict
    from functions to dicts from outcomes to masks of codes of ends. begins is a dict from the functions that are
    called in some run to masks of the states with which they begin.
    """

    def __init__(self, outline, diagrams, places, is_fresh=False):
        self.outline = outline
        self.diagrams = diagrams
        self.places = places
        self.holding = Holding(outline, places, is_fresh)
        self.ends = {name: {} for name in outline.bodies}
        self.effects = Effects(outline, diagrams, places, self.ends)
        self.settle()
        self.reach = Reach(outline, self.effects)
        self.begins = {}
        self.begin()

    def settle(self):
        """Finds the ends of all functions: the least ones of which those of calls and of bodies are the same."""
        callers = self.outline.callers()
        waiting = list(self.outline.bodies)
        while waiting:
            name = waiting.pop()
            told = self.body_ends(name)
            if told != self.ends[name]:
                self.ends[name] = told
                for caller in callers[name]:
                    if caller not in waiting:
                        waiting.append(caller)

    def body_ends(self, name):
        """The ends of a function by those that are known of the functions that it calls."""
        return ends_of_effect(self.effects.of_part(self.outline.bodies[name]), self.holding.outer[name])

    def begin(self):
        """Finds the begins of the functions."""
        self.begins["main"] = 1 << self.holding.starts["main"]
        waiting = ["main"]
        while waiting:
            name = waiting.pop()
            for node in self.outline.calls[name]:
                called = node.row[1]
                states = mapped(self.states_at(node.spot), self.holding.outer[called], self.holding.starts[called])
                if states | self.begins.get(called, 0) != self.begins.get(called, 0):
                    self.begins[called] = states | self.begins.get(called, 0)
                    waiting.append(called)

    def states_at(self, spot):
        """The mask of the states with which runs come to a spot."""
        if spot[0] not in self.begins:
            return 0
        return self.states_by(spot, self.reach.done_at(spot))

    def states_by(self, spot, done):
        """The mask of the states behind this, a diagram, in the function of a spot."""
        return self.diagrams.followed(self.begins.get(spot[0], 0), self.diagrams.flat(done))

    def states_of_look(self, node):
        """The mask of the states with which runs come to a look that looks at the one cell that is studied."""
        cell = node.row[2]
        if not node.has_counter():
            return self.states_at(node.spot) if cell == self.places[0][2] else 0
        rank = node.rank()
        value = self.places[0][2] - cell[1]
        values = self.effects.marked.get(node.counts[rank].spot, [])
        if value not in values:
            return 0
        done = self.diagrams.chosen(self.reach.done_at(node.spot), rank, 1 + values.index(value))
        return self.states_by(node.spot, done)


def ends_of_effect(effect, is_outer):
    """The ends of a function, a dict from outcomes to masks, by the effect of its body."""
    told = {}
    for outcome in effect:
        # No count is around the body: its diagrams are masks.
        key = "done" if outcome == "back" else outcome
        told[key] = told.get(key, 0) | mapped(effect[outcome], is_outer, 0)
    return told
