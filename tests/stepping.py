"""A second reading of steps and ways, for small programs: runs step by step, and ways that are unfolded plainly.

A place is told here as a tuple (owner, key), the key a word or a tuple (array, cell).
"""

from tests.plainly import line
from tests.support import kept, whole


def key_in(functions, name, asked):
    """The place of a name or a tuple (array, cell) that a function sees."""
    word = asked if isinstance(asked, str) else asked[0]
    for function in line(functions, name):
        if word in functions[function][1]:
            return function, asked
    raise AssertionError("a name that is not seen")


def start_worths(functions, name, places):
    """The worths of those places that are the function's own, at its beginning."""
    worths = {}
    for owner, key in places:
        if owner == name:
            own = functions[name][1][key if isinstance(key, str) else key[0]]
            worths[key] = own == "given" if isinstance(key, str) else any(key[1] in range(*pair) for pair in own[1])
    return worths


def parts_of(statement):
    if statement[0] == "either":
        return statement[1:]
    if statement[0] == "try":
        return (statement[1], *(block for _, block in statement[2]), *([statement[3]] if statement[3] else []))
    return statement[-1:]


def catcher(statement, outcome):
    for at, (words, _) in enumerate(statement[2]):
        if outcome.startswith("fail ") and (not words or outcome[5:] in words):
            return at
    return None


class Stepper:
    """All runs of a program, step by step, as far as the limits go, for some places.

    found is a dict from tuples (spot, states) to the least steps, states a tuple with one entry for each place:
    None if the spot's function does not carry it. looks is the like for tuples (spot, cell, states) of looks.
    is_whole tells whether there is nothing more to be found; all that takes less than so many steps was found.
    """

    def __init__(self, functions, places, most_steps=60, most_nodes=20000, begin="main"):
        self.functions = kept(functions)
        self.places = places
        self.found, self.looks = {}, {}
        start = self.call((), (), begin, None)
        now, seen, nodes = {start}, {start}, 0
        self.steps = 0
        while now and self.steps < most_steps and nodes < most_nodes:
            later, waiting = set(), list(now)
            while waiting:
                nodes += 1
                for cost, after in self.after(*waiting.pop()):
                    if after not in seen:
                        seen.add(after)
                        (later.add(after) if cost else waiting.append(after))
            now = later
            self.steps += 1
        self.is_whole = not now

    # A state is a tuple (outcome, tasks, frames): tasks is a linked list (task, rest) whose first one is passed the
    # outcome; frames is a tuple of tuples (function, index of the frame on which it hangs, worths).

    def call(self, rest, frames, called, link):
        worths = tuple(sorted(start_worths(self.functions, called, self.places).items(), key=str))
        frames = (*frames, (called, link, worths))
        return "done", (("block", (called, (), (), len(frames) - 1), 0), (("return",), rest)), frames

    def block_of(self, name, path):
        block = self.functions[name][2]
        for at, part in zip(path[::2], path[1::2]):
            block = parts_of(block[at])[part]
        return block

    def after(self, outcome, tasks, frames):
        """Tuples (steps, state) behind a state."""
        if not tasks:
            return []
        task, rest = tasks
        if task[0] == "block":
            return [(0, (outcome, rest, frames))] if outcome != "done" else self.go_on(task, rest, frames)
        if task[0] == "loop":
            if outcome in ("done", "next"):
                return self.next_round(task, rest, frames)
            return [(0, ("done" if outcome == "leave" else outcome, rest, frames))]
        if task[0] == "try":
            _, statement, place = task
            rest = (("tail", statement, place), rest)
            at = catcher(statement, outcome)
            if at is None:
                return [(0, (outcome, rest, frames))]
            return [(0, ("done", (self.block(place, at + 1), rest), frames))]
        if task[0] == "tail":
            _, statement, place = task
            if not statement[3]:
                return [(0, (outcome, rest, frames))]
            last = self.block(place, len(statement[2]) + 1)
            return [(0, ("done", (last, (("last", outcome), rest)), frames))]
        if task[0] == "last":
            return [(0, (task[1] if outcome == "done" else outcome, rest, frames))]
        return [(0, ("done" if outcome == "back" else outcome, rest, frames[:-1]))]

    def block(self, place, part):
        name, path, counters, frame = place
        return "block", (name, (*path, part), counters, frame), 0

    def go_on(self, task, rest, frames):
        _, (name, path, counters, frame), at = task
        block = self.block_of(name, path)
        key = ((name, (*path, at)), self.states(name, frame, frames))
        self.found.setdefault(key, self.steps)
        if at == len(block):
            return [(0, ("done", rest, frames))]
        rest = (("block", (name, path, counters, frame), at + 1), rest)
        return [(1, after) for after in self.begin(block[at], (name, (*path, at), counters, frame), rest, frames)]

    def begin(self, statement, place, rest, frames):
        name, path, counters, frame = place
        head = statement[0]
        if head in ("leave", "next", "back", "fail"):
            return [(" ".join(statement), rest, frames)]
        if head in ("read", "look"):
            if head == "look":
                key = ((name, path), self.key(statement, counters)[1], self.states(name, frame, frames))
                self.looks.setdefault(key, self.steps)
            return [("done", rest, frames)]
        if head in ("set", "drop", "put", "cut"):
            return [("done", rest, self.change(statement, counters, frame, frames))]
        if head == "call":
            parent = self.functions[statement[1]][0]
            while parent is not None and frames[frame][0] != parent:
                frame = frames[frame][1]
            return [self.call(rest, frames, statement[1], None if parent is None else frame)]
        if head == "either":
            return [("done", (self.block(place, at), rest), frames) for at in range(len(statement) - 1)]
        if head == "try":
            return [("done", (self.block(place, 0), (("try", statement, place), rest)), frames)]
        return [("done", (("loop", statement, place, 0), rest), frames)]

    def next_round(self, task, rest, frames):
        _, statement, place, rounds = task
        name, path, counters, frame = place
        found = []
        is_count = statement[0] == "count"
        more = not is_count or statement[2] + rounds < statement[3]
        if statement[0] == "while" or not more:
            found.append((0, ("done", rest, frames)))
        if more:
            if is_count:
                counters = (*counters, (statement[1], statement[2] + rounds))
            again = ("loop", statement, place, rounds + is_count)
            found.append((1, ("done", (self.block((name, path, counters, frame), 0), (again, rest)), frames)))
        return found

    def key(self, statement, counters):
        """The word of a statement, or its array with the cell that it uses."""
        if len(statement) == 2:
            return statement[1]
        cell = statement[2] if whole(statement[2]) else dict(counters)[statement[2][0]] + statement[2][1]
        return statement[1], cell

    def change(self, statement, counters, frame, frames):
        key = self.key(statement, counters)
        while statement[1] not in self.functions[frames[frame][0]][1]:
            frame = frames[frame][1]
        name, link, worths = frames[frame]
        worths = tuple((one, statement[0] in ("set", "put") if one == key else worth) for one, worth in worths)
        return (*frames[:frame], (name, link, worths), *frames[frame + 1:])

    def states(self, name, frame, frames):
        worths = {}
        while frame is not None:
            for key, worth in frames[frame][2]:
                worths[(frames[frame][0], key)] = "set" if worth else "unset"
            frame = frames[frame][1]
        return tuple(worths.get(place) for place in self.places)


class Lost(Exception):
    """A value is no way."""


def need(holds):
    if not holds:
        raise Lost


class Unfolder:
    """Follows a way round by round and plan by plan, as one that has just read the document would do."""

    def __init__(self, functions, spot, names, most=20000):
        self.functions = kept(functions)
        self.spot = spot
        self.asked = [key_in(self.functions, spot[0], name) for name in names]
        self.left = most

    def led(self, value):
        """The tuple (states, steps, counters), or None."""
        try:
            return self.follow(value)
        except Lost:
            return None

    def follow(self, value):
        need(value.__class__ is tuple and len(value) == 2 and all(part.__class__ is tuple for part in value))
        self.plans, rows = value
        for at, plan in enumerate(self.plans):
            need(plan.__class__ is tuple and len(plan) == 2 and plan[0].__class__ is str and plan[0] in self.functions)
            name, frames = plan[0], None
            for function in reversed(line(self.functions, self.functions[name][0])):
                frames = self.frame(function, frames)
            self.steps = 0
            outcome = self.block(name, (), self.functions[name][2], plan[1], self.frame(name, frames), {}, at, None)
            need(outcome in ("done", "back") or outcome[:5] == "fail ")
        need(rows)
        self.steps, name, frame = 0, "main", self.frame("main", None)
        for row in rows[:-1]:
            outcome = self.block(name, (), self.functions[name][2], row, frame, {}, len(self.plans), None)
            need(outcome == "enter")
            name, frame = self.entered
        need(name == self.spot[0])
        self.block(name, (), self.functions[name][2], rows[-1], frame, {}, len(self.plans), self.spot[1])
        states = []
        for owner, key in self.asked:
            states.append("set" if self.frame_of(frame, owner)["worths"].get(key, self.given(owner, key)) else "unset")
        return tuple(states), self.steps, dict(sorted(self.counters.items()))

    def given(self, owner, key):
        return start_worths(self.functions, owner, [(owner, key)])[key]

    def frame(self, name, link):
        return {"name": name, "link": link, "worths": {}}

    def frame_of(self, frame, owner):
        while frame["name"] != owner:
            frame = frame["link"]
        return frame

    def block(self, name, path, block, row, frame, counters, plans, target):
        """The outcome of a block; "enter" or "there" for one that is not finished."""
        need(row.__class__ is tuple)
        self.left -= 1
        if self.left < 0:
            raise TimeoutError
        entries = list(row)
        outcome = "done"
        for at, statement in enumerate(block):
            if target == (at,):
                break
            inner = target[1:] if target is not None and target[0] == at else None
            self.steps += 1
            outcome = self.statement(name, (*path, at), statement, entries, frame, counters, plans, inner)
            if outcome != "done":
                break
            need(inner is None)
        need(not entries)
        if target is not None and len(target) == 1:
            need(outcome == "done")
            self.counters = counters
            return "there"
        need(target is None or outcome == "there")
        return outcome

    def statement(self, name, path, statement, entries, frame, counters, plans, target):
        head = statement[0]
        if head in ("set", "drop", "put", "cut"):
            key = statement[1]
            if len(statement) == 3:
                cell = statement[2]
                key = (key, cell if whole(cell) else counters[cell[0]] + cell[1])
            self.frame_of(frame, key_in(self.functions, name, key)[0])["worths"][key] = head in ("set", "put")
        if head in ("leave", "next", "back", "fail"):
            return " ".join(statement)
        if head not in ("either", "while", "ever", "count", "try", "call"):
            return "done"
        need(entries)
        entry = entries.pop(0)
        need(entry.__class__ is tuple and entry)
        if head == "call":
            return self.call(statement[1], entry, frame, plans)
        need(entry[0] == ("loop" if head in ("while", "ever", "count") else head))

        def part(at, row, target=target, counters=counters):
            inner = None if target is None or target[0] != at else target[1:]
            return self.block(name, (*path, at), parts_of(statement)[at], row, frame, counters, plans, inner)

        if head == "either":
            need(len(entry) == 3 and whole(entry[1]) and entry[1] in range(len(statement) - 1))
            return part(entry[1], entry[2])
        if head == "try":
            need(len(entry) == 4)
            return self.do_try(statement, entry, part)
        need(len(entry) == 2 and entry[1].__class__ is tuple)
        return self.loop(statement, entry[1], counters, part, target)

    def do_try(self, statement, entry, part):
        outcome = part(0, entry[1])
        at = catcher(statement, outcome)
        if at is None:
            need(entry[2] is None)
        else:
            outcome = part(at + 1, entry[2])
        if not statement[3] or outcome in ("enter", "there"):
            need(entry[3] is None)
            return outcome
        last = part(len(statement[2]) + 1, entry[3])
        return outcome if last == "done" else last

    def loop(self, statement, pieces, counters, part, target):
        rounds, outcome = 0, "done"
        for at, piece in enumerate(pieces):
            need(piece.__class__ is tuple and len(piece) == 2 and whole(piece[0]) and piece[0] > 0)
            for each in range(piece[0]):
                need(outcome in ("done", "next"))
                is_end = at == len(pieces) - 1 and each == piece[0] - 1
                self.steps += 1
                inner = counters
                if statement[0] == "count":
                    need(statement[2] + rounds < statement[3])
                    inner = {**counters, statement[1]: statement[2] + rounds}
                outcome = part(0, piece[1], target if is_end else None, inner)
                rounds += 1
            need(outcome in ("done", "next") or piece[0] == 1)
            need(target is None or at < len(pieces) - 1 or piece[0] == 1)
        if outcome == "leave":
            return "done"
        if outcome not in ("done", "next"):
            return outcome
        need(statement[0] != "ever" and (statement[0] == "while" or rounds == max(0, statement[3] - statement[2])))
        return "done"

    def call(self, called, entry, frame, plans):
        parent = self.functions[called][0]
        inner = self.frame(called, None if parent is None else self.frame_of(frame, parent))
        if entry == ("enter",):
            self.entered = called, inner
            return "enter"
        need(len(entry) == 2 and entry[0] == "call" and whole(entry[1]) and entry[1] in range(plans))
        name, row = self.plans[entry[1]]
        need(name == called)
        outcome = self.block(name, (), self.functions[name][2], row, inner, {}, entry[1], None)
        return "done" if outcome == "back" else outcome
