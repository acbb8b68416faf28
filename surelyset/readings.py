"""Readings of one place: with what done to it since the beginning of a block or a call it is read."""

from surelyset.diagrams import Diagrams
from surelyset.marks import KEPT
from surelyset.reaches import Reach
from surelyset.studies import Study


class Readings:
    """The readings of a place, a name, by an outline; the frame of its owner stays the same in all of them."""

    def __init__(self, outline, place):
        self.outline = outline
        self.place = place
        self.diagrams = Diagrams()
        self.studied = Study(outline, self.diagrams, [place])
        self.effects = self.studied.effects
        self.by_function = {name: 0 for name in outline.bodies}
        self.settle()

    def is_seen(self, name):
        """Whether calls of this function see the caller's frame of the owner."""
        return self.place[0] in self.outline.lines[name][1:]

    def settle(self):
        """Finds the readings in whole calls of the functions: the least ones that fit together."""
        is_new = True
        while is_new:
            is_new = False
            for name in list(self.by_function):
                told = self.within(self.outline.bodies[name]) if self.is_seen(name) else 0
                is_new = is_new or told != self.by_function[name]
                self.by_function[name] = told

    def within(self, part):
        """The mask of the readings in a block, with what was done to the place since the block's beginning."""
        reach = Reach(self.outline, self.effects)
        self.effects.of_part(part)
        reach.spread(part, KEPT)
        told = 0
        for node in inner_nodes(part):
            if node.word in ("read", "call"):
                done = self.diagrams.flat(reach.reached.get(node.spot, 0))
                told |= self.diagrams.followed(done, self.of_node(node))
        return told

    def done_by(self, effect):
        """What an effect does by the time of its outcomes, a dict from those that some run has to masks."""
        return {outcome: self.diagrams.flat(effect[outcome]) for outcome in effect if effect[outcome] != 0}

    def of_node(self, node):
        """The mask of the readings in a statement without blocks, since its beginning."""
        if node.word == "call":
            return self.by_function[node.row[1]]
        return KEPT if node.word == "read" and node.target == self.place else 0


def inner_nodes(part):
    """The nodes in a block, and those within them."""
    found = []
    for node in part.nodes:
        found.append(node)
        for inner in node.parts:
            found.extend(inner_nodes(inner))
    return found
