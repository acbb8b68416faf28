"""Studies: what all runs of a program do to a few places, and with which states of them they come to spots."""

from surelyset.effects import Effects
from surelyset.frames import is_given
from surelyset.marks import KEPT, SET, UNSET, code_of, codes_of, thinned


class Study:
    """A study of a program, by its outline, and of different places, whose owners stand in one line.

    ends is a dict from functions to dicts from outcomes to masks of codes of ends. begins is a dict from the
    functions that are called in some run to masks of the states with which they begin.
    """

    def __init__(self, outline, diagrams, places):
        self.outline = outline
        self.diagrams = diagrams
        self.places = places
        self.ends = {name: {} for name in outline.bodies}
        self.effects = Effects(outline, diagrams, places, self.ends)
        self.settle()
        self.reached = {}
        self.begins = {}
        self.begin()

    def is_outer(self, name):
        """For each place, whether its owner is around the function."""
        return [place[0] in self.outline.lines[name][1:] for place in self.places]

    def start(self, name):
        """The code of the places that the function owns, at its beginning, none for the others."""
        digits = []
        for place in self.places:
            if place[0] != name:
                digits.append(0)
            else:
                word = place[1] if len(place) == 2 else place[1:]
                digits.append(SET if is_given(self.outline.owns[name], word) else UNSET)
        return code_of(digits)

    def settle(self):
        """Finds the ends of all functions: the least ones of which those of calls and of bodies are the same."""
        callers = self.outline.callers()
        waiting = list(self.outline.bodies)
        while waiting:
            name = waiting.pop()
            told = self.body_ends(name)
            if told != self.ends[name]:
                self.ends[name] = told
                for caller in callers[name]:
                    if caller not in waiting:
                        waiting.append(caller)

    def body_ends(self, name):
        """The ends of a function by those that are known of the functions that it calls."""
        is_outer = self.is_outer(name)
        effect = self.effects.of_part(self.outline.bodies[name])
        told = {}
        for outcome in effect:
            # No count is around the body: its diagrams are masks.
            key = "done" if outcome == "back" else outcome
            told[key] = told.get(key, 0) | mapped(effect[outcome], is_outer, 0)
        return told

    def begin(self):
        """Finds the begins of the functions, and what runs of those did when they come to their spots."""
        self.begins["main"] = 1 << self.start("main")
        waiting = ["main"]
        while waiting:
            name = waiting.pop()
            body = self.outline.bodies[name]
            if body.end not in self.reached:
                self.spread(body, KEPT)
            for node in self.outline.calls[name]:
                called = node.row[1]
                states = mapped(self.states_at(node.spot), self.is_outer(called), self.start(called))
                if states | self.begins.get(called, 0) != self.begins.get(called, 0):
                    self.begins[called] = states | self.begins.get(called, 0)
                    waiting.append(called)

    def spread(self, part, head):
        """Keeps what runs of the function did when they come to the spots of a block with this head."""
        at = head
        for node in part.nodes:
            self.reached[node.spot] = at
            if at != 0:
                for inner, more in zip(node.parts, self.effects.heads[node.spot]):
                    self.spread(inner, self.diagrams.followed(at, more))
                at = self.diagrams.followed(at, self.effects.known[node.spot].get("done", 0))
        self.reached[part.end] = at

    def states_at(self, spot):
        """The mask of the states with which runs come to a spot."""
        return self.states_by(spot, self.reached.get(spot, 0))

    def states_by(self, spot, done):
        """The mask of the states behind this, a diagram, in the function of a spot."""
        return self.diagrams.followed(self.begins.get(spot[0], 0), self.diagrams.flat(done))

    def states_of_look(self, node):
        """The mask of the states with which runs come to a look that looks at the one cell that is studied."""
        cell = node.row[2]
        if not node.has_counter():
            return self.states_at(node.spot) if cell == self.places[0][2] else 0
        rank = node.rank()
        value = self.places[0][2] - cell[1]
        values = self.effects.marked.get(node.counts[rank].spot, [])
        if value not in values:
            return 0
        done = self.diagrams.chosen(self.reached.get(node.spot, 0), rank, 1 + values.index(value))
        return self.states_by(node.spot, done)


def mapped(mask, is_left, more):
    """The mask of the codes with only those digits left, and with a code of other digits in their places."""
    told = 0
    for code in codes_of(mask):
        told |= 1 << (thinned(code, is_left) + more)
    return told
