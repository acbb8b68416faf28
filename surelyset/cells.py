"""Verdicts of the cells of arrays."""

from surelyset.desks import Desk
from surelyset.errors import UnknownName, UnknownSpot
from surelyset.places import array_length
from surelyset.verdicts import look_ranges, spot_ranges


def ranges(program, spot, array):
    """Tuples (first, behind, verdict) that cover the array: the verdicts of its cells at the spot."""
    # Raises the error for what is no spot of the program.
    program.statement(spot)
    desk = Desk(program.functions)
    if array_length(desk.outline, spot[0], array) is None:
        raise UnknownName(array)
    return tuple(spot_ranges(desk, spot, (desk.outline.owners[spot[0]][array], array)))


def read_ranges(program, spot):
    """Tuples (first, behind, verdict) for the cells that runs read at the spot of a look."""
    statement = program.statement(spot)
    if statement is None or statement[0] != "look":
        raise UnknownSpot(spot)
    desk = Desk(program.functions)
    node = desk.outline.node_at(spot)
    return tuple(look_ranges(desk, [node], node.target)[0])
