"""What functions do to names that their parents see."""

from surelyset.desks import Desk


def outcomes(program, function):
    """The outcomes that runs of the function have, an ascending tuple."""
    return tuple(ends(program, function))


def ends(program, function, *names):
    """A dict from the outcomes of the function to ascending tuples of what its runs do to these names."""
    parent, _, _ = program[function]
    desk = Desk(program.functions)
    return desk.told_ends(function, parent, names)
