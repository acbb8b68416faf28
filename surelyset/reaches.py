"""What runs of functions did when they come to the spots of their bodies."""

from surelyset.marks import KEPT


class Reach:
    """What was found out by effects, whose ends are settled, function by function as it is asked for."""

    def __init__(self, outline, effects):
        self.outline = outline
        self.effects = effects
        self.reached = {}
        self.gone = {}

    def done_at(self, spot):
        """The diagram of what runs of the spot's function did when they come there; 0 if none does."""
        if spot[0] not in self.gone:
            self.gone[spot[0]] = True
            self.spread(self.outline.bodies[spot[0]], KEPT)
        return self.reached.get(spot, 0)

    def spread(self, part, head):
        """Keeps what was done at the spots of a block with this head."""
        diagrams = self.effects.diagrams
        at = head
        for node in part.nodes:
            self.reached[node.spot] = at
            if at != 0:
                for inner, more in zip(node.parts, self.effects.heads[node.spot]):
                    self.spread(inner, diagrams.followed(at, more))
                at = diagrams.followed(at, self.effects.known[node.spot].get("done", 0))
        self.reached[part.end] = at
