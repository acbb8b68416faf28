"""With which states of names runs come to spots, and what is read unset."""

from surelyset.desks import Desk
from surelyset.studies import Study
from surelyset.verdicts import look_ranges, verdict_of


def states(program, spot, *names):
    """The ascending tuple of the states of these names with which runs come to the spot."""
    checker = Checker(program)
    return checker(spot, names)


def verdict(program, spot, name):
    """The verdict of a name at the spot: never, sure or fault."""
    checker = Checker(program)
    return checker.verdict(spot, name)


def faults(program):
    """The ascending tuple of tuples (spot, cells) for all reads and looks that come with unset names or cells."""
    desk = Desk(program.functions)
    found = {}
    for word, target in desk.outline.read_targets():
        nodes = [node for node in desk.outline.nodes if node.word == word and node.target == target]
        told = read_faults(desk, nodes, target) if word == "read" else look_faults(desk, nodes, target)
        for spot in told:
            found[spot] = told[spot]
    return tuple([(spot, found[spot]) for spot in sorted(set(found))])


def read_faults(desk, nodes, target):
    """A dict from the spots of those reads of a place that are faults to None."""
    study = Study(desk.outline, desk.diagrams, [target])
    return {node.spot: None for node in nodes if verdict_of(study.states_at(node.spot)) == "fault"}


def look_faults(desk, nodes, target):
    """A dict from the spots of those looks at an array that are faults to the ranges of cells that are unset."""
    found = {}
    for node, rows in zip(nodes, look_ranges(desk, nodes, target)):
        cells = [(first, behind) for first, behind, told in rows if told == "fault"]
        if cells:
            found[node.spot] = tuple(cells)
    return found


def is_sound(program):
    """Whether the program has no fault."""
    return not faults(program)


class Checker:
    """Answers about a program, one after the other; what was found out for one helps for others."""

    def __init__(self, program):
        self._program = program
        self._desk = Desk(program.functions)

    @property
    def program(self):
        """The program."""
        return self._program

    def __call__(self, spot, names=()):
        """The states of the names, a list, with which runs come to the spot."""
        return self._states(spot, names)

    def _states(self, spot, names):
        """What the call of a checker returns."""
        # Raises the error for what is no spot of the program.
        self._program.statement(spot)
        return self._desk.told_states(spot, names)

    def verdict(self, spot, name):
        """The verdict of a name at the spot: never, sure or fault."""
        found = self._states(spot, [name])
        if not found:
            return "never"
        return "fault" if ("unset",) in found else "sure"
