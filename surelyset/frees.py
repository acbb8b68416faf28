"""Free spots of a function, and how runs go from one to the next one in the same frame.

What was done to the name between two of them, or before a reading, is a mask, as marks.py has them.
"""

from surelyset.blocks import LOOPS, handler_at
from surelyset.marks import DROPPED, KEPT, mask_followed
from surelyset.programs import is_spot_form
from surelyset.readings import Readings


class FreeSpots:
    """The free spots of a function for one of its names, by an outline.

    after is a dict from the free spots, ascending, that runs come to to dicts from next ones to masks; read_after is
    one to the masks of the readings ahead of the next one. starts are the spots at which unset ways begin.
    """

    def __init__(self, outline, function, name):
        self.readings = Readings(outline, (function, name))
        self.studied = self.readings.studied
        # For each free spot its block and the index in it; for each block the statement around it and its number.
        self.homes = {}
        self.outer = {}
        body = outline.bodies[function]
        self.note_block(body, None, 0)
        # By the spot of a try: the mask of the readings in its last block, and what that does, as masks by outcomes.
        self.lasts = {}
        self.after = {}
        self.read_after = {}
        for spot in sorted(set(self.homes)):
            if self.studied.states_at(spot) != 0:
                self.after[spot] = {}
                self.read_after[spot] = 0
                self.go_on(spot)
        self.starts = self.starts_of(self.spot_in(body, 0), outline.owns[function][name] == "plain")

    def note_block(self, part, node, number):
        """Notes where a block and those within it stand."""
        self.outer[part.end] = (node, number)
        self.homes[part.end] = (part, len(part.nodes))
        for at, inner in enumerate(part.nodes):
            self.homes[inner.spot] = (part, at)
            for many, block in enumerate(inner.parts):
                if inner.word != "try" or many <= len(inner.row[2]):
                    self.note_block(block, inner, many)

    def spot_in(self, part, at):
        """The spot in a block."""
        return part.end if at == len(part.nodes) else part.nodes[at].spot

    def starts_of(self, first, is_plain):
        """A dict from the spots at which unset ways begin to True, the first spot of the function given."""
        starts = {}
        if is_plain and first in self.after:
            starts[first] = True
        for spot in self.after:
            for behind in self.after[spot]:
                if self.after[spot][behind] & DROPPED:
                    starts[behind] = True
        return starts

    def gain(self, spot, behind, mask):
        """Lets a run go from one free spot to the next one in this way."""
        self.after[spot][behind] = self.after[spot].get(behind, 0) | mask

    def go_on(self, spot):
        """Finds how runs go on at a free spot."""
        part, at = self.homes[spot]
        if at == len(part.nodes):
            self.leave(spot, part, {"done": KEPT})
            return
        node = part.nodes[at]
        if node.parts:
            self.enter(spot, part, at)
            return
        self.read_after[spot] |= self.readings.of_node(node)
        self.go_behind(spot, node, self.readings.done_by(self.readings.effects.of_node(node)))

    def enter(self, spot, part, at):
        """Goes on at a statement with blocks."""
        node = part.nodes[at]
        first = self.spot_in(node.parts[0], 0)
        if node.word == "either":
            for inner in node.parts:
                self.gain(spot, self.spot_in(inner, 0), KEPT)
            return
        if has_rounds(node, 1):
            self.gain(spot, first, KEPT)
        if node.word == "while" or not has_rounds(node, 1):
            self.gain(spot, self.spot_in(part, at + 1), KEPT)

    def go_behind(self, spot, node, masks):
        """Goes on behind a statement with these outcomes, a dict to masks of what is done up to them."""
        part, at = self.homes[node.spot]
        rest = {}
        for outcome in masks:
            if outcome == "done":
                self.gain(spot, self.spot_in(part, at + 1), masks[outcome])
            else:
                rest[outcome] = masks[outcome]
        if rest:
            self.leave(spot, part, rest)

    def leave(self, spot, part, masks):
        """Goes on behind a block with these outcomes."""
        node, number = self.outer[part.end]
        if node is None:
            return
        if node.word == "either":
            self.go_behind(spot, node, masks)
        elif node.word in LOOPS:
            self.leave_round(spot, node, masks)
        else:
            self.leave_try(spot, node, masks if number != 0 else self.without_handled(spot, node, masks))

    def leave_round(self, spot, node, masks):
        """Goes on behind a round with these outcomes."""
        behind = {}
        for outcome in masks:
            if outcome not in ("done", "next"):
                put_in(behind, "done" if outcome == "leave" else outcome, masks[outcome])
                continue
            if has_rounds(node, 2):
                self.gain(spot, self.spot_in(node.parts[0], 0), masks[outcome])
            if node.word != "ever":
                put_in(behind, "done", masks[outcome])
        self.go_behind(spot, node, behind)

    def without_handled(self, spot, node, masks):
        """Goes on in the handlers behind the block of a try; the outcomes for which there is none."""
        rest = {}
        for outcome in masks:
            at = handler_at(node.row[2], outcome)
            if at is None:
                rest[outcome] = masks[outcome]
            else:
                self.gain(spot, self.spot_in(node.parts[at + 1], 0), masks[outcome])
        return rest

    def leave_try(self, spot, node, masks):
        """Goes on behind the block of a try, or behind its handler, if no further handler goes on."""
        if len(node.parts) == len(node.row[2]) + 1:
            self.go_behind(spot, node, masks)
            return
        if node.spot not in self.lasts:
            last = node.parts[-1]
            done = self.readings.done_by(self.readings.effects.of_part(last))
            self.lasts[node.spot] = (self.readings.within(last), done)
        read, done = self.lasts[node.spot]
        behind = {}
        for outcome in masks:
            self.read_after[spot] |= mask_followed(masks[outcome], read)
            for other in done:
                told = outcome if other == "done" else other
                put_in(behind, told, mask_followed(masks[outcome], done[other]))
        self.go_behind(spot, node, behind)

    def is_hopeless(self):
        """Whether some run drops the name and reads it with no free spot between."""
        return any([self.read_after[spot] & DROPPED != 0 for spot in self.read_after])

    def is_free(self, value):
        """Whether any value is a free spot."""
        return is_spot_form(value) and value in self.homes

    def is_last(self, spot):
        """Whether unset ways may end at a free spot."""
        return spot in self.read_after and self.read_after[spot] & KEPT != 0

    def kept_after(self, spot):
        """The next free spots to which some run goes with the name neither set nor dropped."""
        after = self.after.get(spot, {})
        return [behind for behind in after if after[behind] & KEPT]

    def is_unset_way(self, value):
        """Whether any value is an unset way."""
        if not isinstance(value, tuple) or not value or not all([self.is_free(spot) for spot in value]):
            return False
        if value[0] not in self.starts or not self.is_last(value[-1]):
            return False
        return all([behind in self.kept_after(spot) for spot, behind in zip(value, value[1:])])


def has_rounds(node, many):
    """Whether a loop may have so many rounds; a try has one."""
    return node.word != "count" or node.row[3] - node.row[2] >= many


def put_in(masks, outcome, mask):
    """Lets runs come to an outcome, a key of a dict to masks, also in this way."""
    masks[outcome] = masks.get(outcome, 0) | mask
