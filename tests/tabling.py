"""A second reading of tables of begins and ends: bodies are gone through plainly, calls as the table tells them."""

from tests.plainly import line
from tests.stepping import catcher, parts_of, start_worths
from tests.support import kept, whole


class Tabling:
    """What runs of the bodies in a table of the right form come to: lets is a dict from spots to sets of states.

    missing is a set of tuples of what is not in the table and should be: ("begin", function, state) or
    ("end", function, outcome, ends).
    """

    def __init__(self, functions, places, table):
        self.functions = kept(functions)
        self.places = places
        self.table = table
        self.lets = {}
        self.missing = set()
        self.need_begin("main", self.start("main"))
        for name in table:
            for state in table[name][0]:
                self.body(name, state)

    def start(self, name):
        """The own places of a function at its beginning, "none" for the others."""
        states = []
        for place in self.places:
            worths = start_worths(self.functions, name, [self.keyed(place)])
            states.append({None: "none", True: "set", False: "unset"}[next(iter(worths.values()), None)])
        return tuple(states)

    def keyed(self, place):
        return place[0], place[1] if len(place) == 2 else place[1:]

    def is_around(self, place, name):
        return place[0] in line(self.functions, name)[1:]

    def need_begin(self, name, state):
        if name not in self.table or state not in self.table[name][0]:
            self.missing.add(("begin", name, state))

    def body(self, name, state):
        begun = (state, ("keep",) * len(self.places))
        for outcome, (_, ends) in self.block(name, self.functions[name][2], (), begun, {}):
            outcome = "done" if outcome == "back" else outcome
            ends = tuple(end if self.is_around(place, name) else "keep" for place, end in zip(self.places, ends))
            if ends not in self.table[name][1].get(outcome, ()):
                self.missing.add(("end", name, outcome, ends))

    def block(self, name, block, path, begun, counters):
        now, found = {begun}, set()
        for at, statement in enumerate(block):
            later = set()
            for each in now:
                self.lets.setdefault((name, (*path, at)), set()).add(each[0])
                for outcome, after in self.statement(name, statement, (*path, at), each, counters):
                    (later.add(after) if outcome == "done" else found.add((outcome, after)))
            now = later
        for each in now:
            self.lets.setdefault((name, (*path, len(block))), set()).add(each[0])
        return found | {("done", each) for each in now}

    def statement(self, name, statement, path, begun, counters):
        head = statement[0]
        if head in ("leave", "next", "back", "fail"):
            return {(" ".join(statement), begun)}
        if head in ("read", "look"):
            return {("done", begun)}
        if head in ("set", "drop", "put", "cut"):
            return {("done", self.change(name, statement, begun, counters))}
        if head == "call":
            return self.call(statement[1], begun)

        def part(at, begun, counters=counters):
            return self.block(name, parts_of(statement)[at], (*path, at), begun, counters)

        if head == "either":
            return set().union(*(part(at, begun) for at in range(len(statement) - 1)))
        if head == "try":
            return self.do_try(statement, begun, part)
        found, now, seen = set(), {begun}, {begun}
        for worth in range(statement[2], statement[3]) if head == "count" else range(100):
            more = {} if head != "count" else {statement[1]: worth}
            ended = set().union(*(part(0, each, {**counters, **more}) for each in now))
            found |= {("done" if outcome == "leave" else outcome, each)
                      for outcome, each in ended if outcome not in ("done", "next")}
            now = {each for outcome, each in ended if outcome in ("done", "next")}
            if head != "count":
                now, seen = now - seen, seen | now
        if head == "ever":
            return found
        return found | {("done", each) for each in (now if head == "count" else seen)}

    def do_try(self, statement, begun, part):
        found = set()
        for outcome, after in part(0, begun):
            at = catcher(statement, outcome)
            found |= {(outcome, after)} if at is None else part(at + 1, after)
        if not statement[3]:
            return found
        return {(outcome if last == "done" else last, end) for outcome, after in found
                for last, end in part(len(statement[2]) + 1, after)}

    def change(self, name, statement, begun, counters):
        place = (next(each for each in line(self.functions, name) if statement[1] in self.functions[each][1]),
                 statement[1])
        if len(statement) == 3:
            cell = statement[2]
            place = (*place, cell if whole(cell) else counters[cell[0]] + cell[1])
        word = "set" if statement[0] in ("set", "put") else "unset"
        return tuple(tuple(word if each == place else old for each, old in zip(self.places, olds)) for olds in begun)

    def call(self, called, begun):
        state, ends = begun
        self.need_begin(called, tuple(old if self.is_around(place, called) else new for place, old, new
                                      in zip(self.places, state, self.start(called))))
        found = set()
        for outcome, rows in self.table.get(called, ((), {}))[1].items():
            for row in rows:
                after = tuple(tuple(old if end == "keep" else end for old, end in zip(olds, row))
                              for olds in (state, ends))
                found.add((outcome, after))
        return found

    def closed(self):
        """A closed table with all that is in this one and perhaps more, no more than needed."""
        table = {name: (set(begins), {key: set(rows) for key, rows in ends.items()})
                 for name, (begins, ends) in self.table.items()}
        for kind, name, *more in self.missing:
            begins, ends = table.setdefault(name, (set(), {}))
            if kind == "begin":
                begins.add(more[0])
            else:
                ends.setdefault(more[0], set()).add(more[1])
        grown = {name: (tuple(sorted(begins)), {key: tuple(sorted(ends[key])) for key in sorted(ends)})
                 for name, (begins, ends) in sorted(table.items())}
        return grown if not self.missing else Tabling(self.functions, self.places, grown).closed()
