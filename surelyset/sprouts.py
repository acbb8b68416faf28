"""Statements that know from which spots of an old program they come, for making a program of others' parts."""

from surelyset.blocks import with_blocks


class Sprout:
    """A statement, whose blocks are Beds in place of its own ones, and the spot from which it comes, or None."""

    def __init__(self, row, origin, beds):
        self.row = row
        self.origin = origin
        self.beds = beds


class Bed:
    """A block: its sprouts, and the spot from which its end comes, or None."""

    def __init__(self, sprouts, origin):
        self.sprouts = sprouts
        self.origin = origin


def block_of(bed):
    """A Bed as a block."""
    return tuple([with_blocks(sprout.row, [block_of(inner) for inner in sprout.beds]) for sprout in bed.sprouts])


def origins_of(function, bed, path):
    """Tuples of a spot in the block of a Bed, and the spot from which it comes."""
    found = []
    for at, sprout in enumerate(bed.sprouts):
        found.append(((function, (*path, at)), sprout.origin))
        for part, inner in enumerate(sprout.beds):
            found.extend(origins_of(function, inner, (*path, at, part)))
    found.append(((function, (*path, len(bed.sprouts))), bed.origin))
    return found
