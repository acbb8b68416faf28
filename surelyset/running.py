"""Runs of programs with given choices."""

from surelyset.errors import OutOfRange
from surelyset.kinds import is_integer
from surelyset.machines import Machine

MOST_AT_ALL = 10000


class Run:
    """What happened in a run."""

    def __init__(self, events, ending, steps, used):
        self._events = events
        self._ending = ending
        self._steps = steps
        self._used = used

    @property
    def events(self):
        """A tuple of tuples (spot, is_set), one for each read and look, in order."""
        return self._events

    @property
    def ending(self):
        """The outcome of main, "open" if a choice was missing, "most" if a step was."""
        return self._ending

    @property
    def steps(self):
        """How many steps there were."""
        return self._steps

    @property
    def used(self):
        """How many choices were used."""
        return self._used

    def __eq__(self, other):
        if not isinstance(other, Run):
            return False
        is_same_end = self._ending == other._ending and self._steps == other._steps
        return is_same_end and self._used == other._used and self._events == other._events


def run(program, choices, *, most=1000):
    """What happens in the program with these choices, and with so many steps at most."""
    if not is_integer(most) or not 0 <= most <= MOST_AT_ALL:
        raise OutOfRange(most)
    machine = Machine(program.functions, choices, most)
    ending = machine.finish()
    return Run(tuple(machine.seen), ending, machine.taken, machine.drawn)
