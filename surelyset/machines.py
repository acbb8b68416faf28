"""The machine that runs a program with given choices, without recursion: calls may stand deep in one another.

What is going on are tasks on a stack: blocks, loops, trys and calls. The task on top is passed the outcome
of what it waited for, "done" if it was just begun; it ends with an outcome, or puts another task on top.
"""

from surelyset.blocks import LOOPS, blocks_of, handler_at
from surelyset.errors import InvalidChoice
from surelyset.frames import Frame
from surelyset.kinds import is_integer
from surelyset.sights import owners_of

MARKS = {"set": True, "put": True, "drop": False, "cut": False}


class Site:
    """Where a block goes on: the function's frame, and the counters that are known with their values."""

    def __init__(self, frame, counters):
        self.frame = frame
        self.counters = counters

    def with_counter(self, counter, worth):
        """The site within a round of a count."""
        return Site(self.frame, {**self.counters, counter: worth})

    def cell(self, cell):
        """The cell of an array: an integer for what stands in a statement."""
        if is_integer(cell):
            return cell
        counter, more = cell
        return self.counters[counter] + more


class Machine:
    """A run of a program as far as it came."""

    def __init__(self, bodies, choices, most):
        self.bodies = bodies
        self.owners = {name: owners_of(bodies, name) for name in bodies}
        self.choices = choices
        self.most = most
        self.taken = 0
        self.drawn = 0
        self.seen = []
        self.stop = None
        self.tasks = []

    def finish(self):
        """Runs main to its end, or as far as the choices and the steps go; how it ended."""
        outcome = self.call(None, "main")
        while self.tasks and self.stop is None:
            task = self.tasks[-1]
            outcome = task.take(self, outcome)
        return outcome if self.stop is None else self.stop

    def has_step(self):
        """Takes a step; False, and the run stops, if it is one too many."""
        if self.taken == self.most:
            self.stop = "most"
            return False
        self.taken += 1
        return True

    def choice(self, many):
        """The next choice, one of so many; None, and the run stops, if none is left."""
        at = self.drawn
        if at == len(self.choices):
            self.stop = "open"
            return None
        if not is_integer(self.choices[at]) or not 0 <= self.choices[at] < many:
            raise InvalidChoice(at)
        self.drawn += 1
        return self.choices[at]

    def call(self, frame, called):
        """Begins a call, out of a function with this frame; what the new tasks are passed."""
        parent, own, body = self.bodies[called]
        around = None if parent is None else frame.frame_of(parent)
        self.tasks.append(Call())
        self.tasks.append(Block((called, ()), body, Site(Frame(called, own, around), {})))
        return "done"

    def statement_begins(self, spot, row, site):
        """Begins a statement; its outcome, or what the new tasks are passed."""
        word = row[0]
        if word == "either":
            at = self.choice(len(row) - 1)
            return "done" if at is None else self.part_begins(spot, row, at, site)
        if word in LOOPS:
            self.tasks.append(Loop(spot, row, site))
            return "done"
        if word == "try":
            self.tasks.append(Try(spot, row, site))
            return self.part_begins(spot, row, 0, site)
        if word == "call":
            return self.call(site.frame, row[1])
        if word == "fail":
            return f"fail {row[1]}"
        if len(row) == 1:
            return word
        self.use(spot, row, site)
        return "done"

    def part_begins(self, spot, row, part, site):
        """Begins a block of a statement; what the new task is passed."""
        function, path = spot
        self.tasks.append(Block((function, (*path, part)), blocks_of(row)[part], site))
        return "done"

    def use(self, spot, row, site):
        """What a statement does to a name or a cell."""
        frame = site.frame
        owner = frame.frame_of(self.owners[frame.word][row[1]])
        place = row[1] if len(row) == 2 else (row[1], site.cell(row[2]))
        if row[0] in MARKS:
            owner.change(place, MARKS[row[0]])
        else:
            self.seen.append((spot, owner.is_set(place)))


class Block:
    """A block that is going on; the lead is its spot without the index in it."""

    def __init__(self, lead, rows, site):
        self.lead = lead
        self.rows = rows
        self.site = site
        self.at = 0

    def take(self, machine, outcome):
        """Goes on behind a statement with this outcome."""
        at = self.at
        if outcome != "done" or at == len(self.rows):
            machine.tasks.pop()
            return outcome
        self.at += 1
        function, path = self.lead
        if not machine.has_step():
            return "done"
        return machine.statement_begins((function, (*path, at)), self.rows[at], self.site)


class Loop:
    """A loop that is going on."""

    def __init__(self, spot, row, site):
        self.spot = spot
        self.row = row
        self.site = site
        self.rounds = 0

    def take(self, machine, outcome):
        """Goes on behind a round with this outcome, or with the first round."""
        if outcome not in ("done", "next"):
            machine.tasks.pop()
            return "done" if outcome == "leave" else outcome
        if self.has_round(machine):
            if machine.has_step():
                machine.part_begins(self.spot, self.row, 0, self.round_site())
        elif machine.stop is None:
            machine.tasks.pop()
        return "done"

    def has_round(self, machine):
        """Whether a further round begins; it need not know if the run stops."""
        self.rounds += 1
        if self.row[0] == "while":
            return machine.choice(2) == 1
        return self.row[0] == "ever" or self.row[2] + self.rounds <= self.row[3]

    def round_site(self):
        """The site of the round that begins."""
        if self.row[0] != "count":
            return self.site
        return self.site.with_counter(self.row[1], self.row[2] + self.rounds - 1)


class Try:
    """A try that is going on: its block, then perhaps a handler, then perhaps its finally block."""

    def __init__(self, spot, row, site):
        self.spot = spot
        self.row = row
        self.site = site
        self.is_handling = True
        self.before = None

    def take(self, machine, outcome):
        """Goes on behind one of its blocks with this outcome."""
        if self.before is not None:
            machine.tasks.pop()
            return self.before if outcome == "done" else outcome
        at = handler_at(self.row[2], outcome) if self.is_handling else None
        self.is_handling = False
        if at is not None:
            return machine.part_begins(self.spot, self.row, 1 + at, self.site)
        self.before = outcome
        if self.row[3]:
            return machine.part_begins(self.spot, self.row, 1 + len(self.row[2]), self.site)
        machine.tasks.pop()
        return outcome


class Call:
    """A call that is going on."""

    def take(self, machine, outcome):
        """Goes on behind the body of the function with this outcome."""
        machine.tasks.pop()
        return "done" if outcome == "back" else outcome
