"""Guides: where a way leads that somebody tells, and whether it is one.

What a run does is told as a tuple (outcome, diagram of what it does, steps), None if it is no run. Besides those of
the document, there are the outcomes "enter f" of a run that stops within a call, and "there" of one that has come
to the spot.
"""

from surelyset.blocks import handler_at
from surelyset.diagrams import Diagrams
from surelyset.effects import Effects
from surelyset.holdings import Holding
from surelyset.kinds import is_integer, is_tuple_of
from surelyset.limits import MOST_STEPS
from surelyset.marks import KEPT, code_followed, codes_of, thinned
from surelyset.turns import turns_of

THERE = "there"
GOING_ON = ("done", "next")


class Guide:
    """Leads along ways in a program, by its outline, for different places; counters are those of the last way."""

    def __init__(self, outline, places):
        self.outline = outline
        self.diagrams = Diagrams()
        self.holding = Holding(outline, places)
        self.effects = Effects(outline, self.diagrams, places, {})
        self.plans = []
        self.counters = {}

    def led(self, spot, value):
        """The tuple (state, steps) with which any value leads to the spot, None if it is no way to it."""
        if not is_tuple_of(value, 2) or not isinstance(value[0], tuple) or not isinstance(value[1], tuple):
            return None
        for plan in value[0]:
            if not self.has_plan(plan):
                return None
        return self.along(value[1], spot)

    def has_plan(self, value):
        """Whether any value is a plan that may stand behind those before it; if so, it is kept."""
        if not is_tuple_of(value, 2) or not isinstance(value[0], str) or value[0] not in self.outline.bodies:
            return False
        name, row = value
        told = self.row_told(self.outline.bodies[name], row, None)
        if told is None or told[0].startswith("enter "):
            return False
        outcome, done, steps = told
        code = thinned(codes_of(done)[0], self.holding.outer[name])
        self.plans.append((name, "done" if outcome == "back" else outcome, self.diagrams.leaf(code), steps))
        return True

    def along(self, rows, spot):
        """As led, for the rows of a way."""
        name = "main"
        state = self.holding.starts[name]
        steps = 0
        for at, row in enumerate(rows):
            is_last = at == len(rows) - 1
            if is_last and name != spot[0]:
                return None
            told = self.row_told(self.outline.bodies[name], row, spot[1] if is_last else None)
            if told is None or not (told[0] == THERE if is_last else told[0].startswith("enter ")):
                return None
            state = code_followed(state, codes_of(told[1])[0])
            steps = capped(steps + told[2])
            if is_last:
                return state, steps
            name = told[0][len("enter "):]
            state = thinned(state, self.holding.outer[name]) + self.holding.starts[name]
        return None

    def row_told(self, part, row, target):
        """What a run does in a block with any value as its row; the target is the path to the spot from here on.

        With a target it is no run unless it comes there.
        """
        if not isinstance(row, tuple):
            return None
        used = 0
        so_far = ("done", KEPT, 0)
        for at, node in enumerate(part.nodes):
            if target == (at,):
                break
            entry = None
            if node.parts or node.word == "call":
                if used == len(row):
                    return None
                entry = row[used]
                used += 1
            inner = target[1:] if target is not None and target[0] == at else None
            so_far = self.behind(so_far, self.node_told(node, entry, inner))
            if so_far is None or so_far[0] != "done":
                break
        if so_far is None or used != len(row):
            return None
        return so_far if target is None else arrived(so_far, target)

    def behind(self, told, more):
        """What two parts of a run, one behind the other, do together."""
        if more is None:
            return None
        outcome, done, steps = more
        return outcome, self.diagrams.followed(told[1], done), capped(told[2] + steps)

    def node_told(self, node, entry, target):
        """What a run does in a statement with any value as its entry."""
        if not node.parts and node.word != "call":
            effect = self.effects.of_node(node)
            outcome = list(effect)[0]
            return outcome, effect[outcome], 1
        if node.word == "call":
            told = self.call_told(node, entry)
        elif node.word == "either":
            told = self.either_told(node, entry, target)
        elif node.word == "try":
            told = self.try_told(node, entry, target)
        else:
            told = self.loop_told(node, entry, target)
        return self.behind(("done", KEPT, 1), told)

    def call_told(self, node, entry):
        """What a run does in a call, without the step of the call itself."""
        if entry == ("enter",):
            return f"enter {node.row[1]}", KEPT, 0
        if not is_tuple_of(entry, 2) or entry[0] != "call" or not is_integer(entry[1]):
            return None
        if not 0 <= entry[1] < len(self.plans) or self.plans[entry[1]][0] != node.row[1]:
            return None
        return self.plans[entry[1]][1:]

    def either_told(self, node, entry, target):
        """What a run does in an either, without its step."""
        if not is_tuple_of(entry, 3) or entry[0] != "either" or not is_integer(entry[1]):
            return None
        _, at, row = entry
        if not 0 <= at < len(node.parts):
            return None
        return self.part_told(node, at, row, target)

    def part_told(self, node, part, row, target):
        """What a run does in a block of a statement; the target may be in another one."""
        if target is None or target[0] != part:
            return self.row_told(node.parts[part], row, None)
        return self.row_told(node.parts[part], row, target[1:])

    def try_told(self, node, entry, target):
        """What a run does in a try, without its step."""
        if not is_tuple_of(entry, 4) or entry[0] != "try":
            return None
        _, own, handled, last = entry
        told = self.part_told(node, 0, own, target)
        if told is None:
            return None
        handlers = node.row[2]
        at = handler_at(handlers, told[0])
        if at is not None:
            told = self.behind(told, self.part_told(node, at + 1, handled, target))
        elif handled is not None:
            return None
        if told is None or is_stopped(told[0]) or len(node.parts) == len(handlers) + 1:
            return told if last is None else None
        behind = self.behind(told, self.part_told(node, len(handlers) + 1, last, target))
        if behind is None or behind[0] != "done":
            return behind
        return told[0], behind[1], behind[2]

    def loop_told(self, node, entry, target):
        """What a run does in a loop, without its step."""
        if not is_tuple_of(entry, 2) or entry[0] != "loop" or not isinstance(entry[1], tuple):
            return None
        many = rounds_of(node)
        rounds = 0
        so_far = ("done", KEPT, 0)
        for at, piece in enumerate(entry[1]):
            if so_far[0] not in GOING_ON or not is_tuple_of(piece, 2):
                return None
            times, row = piece
            if not is_integer(times) or times < 1 or (many is not None and times > many - rounds):
                return None
            if target is not None and at == len(entry[1]) - 1:
                self.know(node, rounds)
                told = self.row_told(node.parts[0], row, target[1:])
            else:
                told = self.row_told(node.parts[0], row, None)
            if told is None or (times != 1 and told[0] not in GOING_ON):
                return None
            done = self.rounds_done(node, told[1], rounds, times)
            so_far = self.behind(so_far, (told[0], done, capped(times * (1 + told[2]))))
            rounds += times
        if so_far[0] in GOING_ON:
            # Behind such a round a loop is done, if it may end there.
            return ("done", *so_far[1:]) if node.word == "while" or rounds == many else None
        return ("done", *so_far[1:]) if so_far[0] == "leave" else so_far

    def know(self, node, rounds):
        """Keeps what the counter is behind so many rounds of a loop around the spot."""
        if node.word == "count":
            self.counters[node.row[1]] = node.row[2] + rounds

    def rounds_done(self, node, turn, before, times):
        """The diagram of so many rounds, behind so many others, each of which does this."""
        if node.word != "count":
            return self.diagrams.repeated(turn, times)
        first = node.row[2] + before
        done = KEPT
        for kind, rounds in turns_of(first, first + times, self.effects.marked.get(node.spot, [])):
            own = self.diagrams.chosen(turn, len(node.counts), kind)
            done = self.diagrams.followed(done, self.diagrams.repeated(own, rounds))
        return done


def arrived(told, target):
    """What a run does that is to come to a target in its block, None if it does not come there."""
    if len(target) > 1:
        return told if told[0] == THERE else None
    return (THERE, *told[1:]) if told[0] == "done" else None


def is_stopped(outcome):
    """Whether a run with this outcome has not come to an end."""
    return outcome == THERE or outcome.startswith("enter ")


def capped(steps):
    """A number of steps as it is told."""
    return min(int(steps), MOST_STEPS)


def rounds_of(node):
    """The rounds of a count that comes to its last one, None for other loops."""
    if node.word != "count":
        return None
    return max(0, node.row[3] - node.row[2])
