"""A second reading of what runs do, for small programs: all rounds and all frames are gone through plainly.

A chain is a tuple of frames, the nearest one first, each one hanging on the next one. A frame is a tuple
(function, values), values a tuple of tuples (name or (array, cell), worth), where the worth is True for set,
False for unset, and None for what was begun unknown and neither set nor dropped since.
"""

from tests.support import kept


MOST_BLOCKS = 60000


class TooMuch(Exception):
    """There are too many blocks to go through."""


def line(functions, name):
    return [] if name is None else [name, *line(functions, functions[name][0])]


class Plainly:
    """All runs of a program: visits is a dict from spots to sets of tuples (chain, counters).

    Only those names and cells are told apart that are tracked, tuples (function, name or (array, cell)); None
    is for all of them.
    """

    def __init__(self, functions, tracked=None):
        self.functions = kept(functions)
        self.tracked = tracked
        self.visits = {}
        self.calls = {}
        self.blocks = 0

    def run_main(self):
        self.solve(("main", ()))
        return self

    def solve(self, key):
        """The set of tuples (outcome, chain around) of a call, a tuple (function, chain around)."""
        self.calls.setdefault(key, set())
        grows = True
        while grows:
            before = sum(map(len, self.calls.values())), len(self.calls)
            for each in list(self.calls):
                self.calls[each] |= self.evaluate(*each)
            grows = before != (sum(map(len, self.calls.values())), len(self.calls))
        return self.calls[key]

    def evaluate(self, name, around):
        chain = ((name, self.fresh(name)), *around)
        found = set()
        for outcome, after in self.block(name, self.functions[name][2], (), chain, {}):
            found.add(("done" if outcome == "back" else outcome, after[1:]))
        return found

    def fresh(self, name, unknown=False):
        worths = {}
        for word, own in self.functions[name][1].items():
            if isinstance(own, str):
                worths[word] = own == "given"
            else:
                for cell in self.cells(name, word, own[0]):
                    worths[(word, cell)] = any(cell in range(*pair) for pair in own[1])
        if self.tracked is not None:
            worths = {key: worths[key] for key in worths if (name, key) in self.tracked}
        return tuple((key, None if unknown else worths[key]) for key in sorted(worths, key=str))

    def cells(self, name, word, length):
        if self.tracked is None:
            return range(length)
        return [key[1] for owner, key in self.tracked if owner == name and key[0] == word and isinstance(key, tuple)]

    def block(self, name, block, path, chain, counters):
        """The set of tuples (outcome, chain) of a block that is begun like this."""
        self.blocks += 1
        if self.blocks > MOST_BLOCKS:
            raise TooMuch
        done, found = {chain}, set()
        for at, statement in enumerate(block):
            nexts = set()
            for each in done:
                for outcome, after in self.statement(name, statement, (*path, at), each, counters):
                    (nexts.add(after) if outcome == "done" else found.add((outcome, after)))
            done = nexts
        for each in done:
            self.visit((name, (*path, len(block))), each, counters)
        return found | {("done", each) for each in done}

    def visit(self, spot, chain, counters):
        self.visits.setdefault(spot, set()).add((chain, tuple(sorted(counters.items()))))

    def statement(self, name, statement, path, chain, counters):
        self.visit((name, path), chain, counters)
        head = statement[0]
        if head in ("leave", "next", "back"):
            return {(head, chain)}
        if head == "fail":
            return {("fail " + statement[1], chain)}
        if head in ("read", "look"):
            return {("done", chain)}
        if head in ("set", "drop", "put", "cut"):
            return {("done", self.change(chain, statement, counters))}
        if head == "call":
            return self.call(statement[1], chain)
        if head == "either":
            return set().union(*(self.block(name, inner, (*path, at), chain, counters)
                                 for at, inner in enumerate(statement[1:])))
        if head == "try":
            return self.do_try(name, statement, path, chain, counters)
        if head == "count":
            return self.count(name, statement, path, chain, counters)
        return self.free_loop(name, statement, path, chain, counters)

    def change(self, chain, statement, counters):
        key = statement[1]
        if len(statement) == 3:
            cell = statement[2]
            key = (key, cell if isinstance(cell, int) else counters[cell[0]] + cell[1])
        for at, (function, worths) in enumerate(chain):
            if statement[1] in self.functions[function][1]:
                table = dict(worths)
                if key in table:
                    table[key] = statement[0] in ("set", "put")
                return (*chain[:at], (function, tuple(table.items())), *chain[at + 1:])
        raise AssertionError("a name that is not seen")

    def call(self, called, chain):
        parent = self.functions[called][0]
        names = [function for function, _ in chain]
        at = len(chain) if parent is None else names.index(parent)
        key = (called, chain[at:])
        self.calls.setdefault(key, set())
        return {(outcome, (*chain[:at], *around)) for outcome, around in self.calls[key]}

    def count(self, name, statement, path, chain, counters):
        _, counter, low, high, inner = statement
        going, found = {chain}, set()
        for worth in range(low, high):
            nexts = set()
            for each in going:
                for outcome, after in self.block(name, inner, (*path, 0), each, {**counters, counter: worth}):
                    if outcome in ("done", "next"):
                        nexts.add(after)
                    else:
                        found.add(("done" if outcome == "leave" else outcome, after))
            going = nexts
        return found | {("done", each) for each in going}

    def free_loop(self, name, statement, path, chain, counters):
        waiting, begun, found = [chain], {chain}, set()
        while waiting:
            for outcome, after in self.block(name, statement[1], (*path, 0), waiting.pop(), counters):
                if outcome not in ("done", "next"):
                    found.add(("done" if outcome == "leave" else outcome, after))
                elif after not in begun:
                    begun.add(after)
                    waiting.append(after)
        if statement[0] == "while":
            found |= {("done", each) for each in begun}
        return found

    def do_try(self, name, statement, path, chain, counters):
        _, inner, handlers, last = statement
        found = set()
        for outcome, after in self.block(name, inner, (*path, 0), chain, counters):
            at = self.handler(handlers, outcome)
            if at is None:
                found.add((outcome, after))
            else:
                found |= self.block(name, handlers[at][1], (*path, 1 + at), after, counters)
        if not last:
            return found
        behind = set()
        for outcome, after in found:
            for other, end in self.block(name, last, (*path, 1 + len(handlers)), after, counters):
                behind.add((outcome if other == "done" else other, end))
        return behind

    def handler(self, handlers, outcome):
        if outcome[:4] == "fail":
            for at, (words, _) in enumerate(handlers):
                if outcome[5:] in words or words == ():
                    return at
        return None

    # What is asked about the runs.

    def key_in(self, spot_function, name):
        """The owner of a name or a tuple (array, cell) that a function sees, and its key in frames."""
        word = name if isinstance(name, str) else name[0]
        for function in line(self.functions, spot_function):
            if word in self.functions[function][1]:
                return function, name
        raise AssertionError("a name that is not seen")

    def worth(self, chain, owner, key):
        for function, worths in chain:
            if function == owner:
                return dict(worths)[key]
        raise AssertionError("a frame that is not seen")

    def states(self, spot, names):
        keys = [self.key_in(spot[0], name) for name in names]
        found = set()
        for chain, _ in self.visits.get(spot, ()):
            found.add(tuple("set" if self.worth(chain, *key) else "unset" for key in keys))
        return tuple(sorted(found))

    def read_cells(self, spot, statement):
        """A dict from the cells that a look reads to whether each of them is always set."""
        found = {}
        for chain, counters in self.visits.get(spot, ()):
            cell = statement[2]
            if not isinstance(cell, int):
                cell = dict(counters)[cell[0]] + cell[1]
            owner, key = self.key_in(spot[0], (statement[1], cell))
            if self.tracked is None or (owner, key) in self.tracked:
                found[cell] = found.get(cell, True) and self.worth(chain, owner, key)
        return found

    def ends(self, name, names):
        """The ends of a function for names that its parent sees."""
        parent = self.functions[name][0]
        around = tuple((function, self.fresh(function, True)) for function in line(self.functions, parent))
        words = {None: "keep", True: "set", False: "unset"}
        keys = [self.key_in(parent, each) for each in names]
        found = {}
        for outcome, after in self.solve((name, around)):
            found.setdefault(outcome, set()).add(tuple(words[self.worth(after, *key)] for key in keys))
        return {outcome: tuple(sorted(found[outcome])) for outcome in sorted(found)}


def as_ranges(told):
    """Tuples (first, behind, told), as few as possible, of a dict from cells to what is told of them."""
    found = []
    for cell in sorted(told):
        if found and found[-1][1] == cell and found[-1][2] == told[cell]:
            found[-1] = (found[-1][0], cell + 1, told[cell])
        else:
            found.append((cell, cell + 1, told[cell]))
    return tuple(found)
