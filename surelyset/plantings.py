"""Putting a statement in at spots of a body."""

from surelyset.blocks import blocks_of, with_blocks


def planted(function, block, path, spots, statement):
    """A block with the statement put in at each of these spots, ahead of what stands there; the path leads to it."""
    made = []
    for at in range(len(block) + 1):
        spot = (function, (*path, at))
        if spot in spots:
            made.append(statement)
        if at < len(block):
            blocks = []
            for part, inner in enumerate(blocks_of(block[at])):
                blocks.append(planted(function, inner, (*spot[1], part), spots, statement))
            made.append(with_blocks(block[at], blocks))
    return tuple(made)
