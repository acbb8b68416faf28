"""What statements and blocks do to a few places.

An effect is a dict from outcomes to diagrams of what is done to the places up to this outcome, none of them 0.
The heads of a statement are a list of diagrams, one for each of its blocks: of what is done from the beginning
of the statement to the beginnings of the block, any of its rounds counted.
"""

from surelyset.blocks import handler_at
from surelyset.marks import KEPT
from surelyset.turns import turns_of, values_of

# The digits of set and unset.
DIGITS = {"set": 1, "put": 1, "drop": 2, "cut": 2}
# So many rounds do what more of them do: each place was last set or dropped in one of three at most.
MANY_ROUNDS = 4


class Effects:
    """Effects for places; ends is a dict from functions to those of calls, dicts from outcomes to masks."""

    def __init__(self, outline, diagrams, places, ends):
        self.diagrams = diagrams
        self.weights = {}
        weight = 1
        for place in places:
            self.weights[place] = weight
            weight *= 3
        self.marked = values_of(outline, places)
        self.ends = ends
        self.known = {}
        self.heads = {}

    def of_part(self, part):
        """The effect of a block."""
        effect = {}
        so_far = KEPT
        for node in part.nodes:
            if so_far == 0:
                break
            own = self.of_node(node)
            for outcome in own:
                if outcome != "done":
                    self.gain(effect, outcome, self.diagrams.followed(so_far, own[outcome]))
            so_far = self.diagrams.followed(so_far, own.get("done", 0))
        self.gain(effect, "done", so_far)
        return effect

    def gain(self, effect, outcome, one):
        """Lets an effect come to an outcome also in this way."""
        if one != 0:
            effect[outcome] = self.diagrams.joined(effect.get(outcome, 0), one)

    def of_node(self, node):
        """The effect of a statement, whose heads are kept."""
        # What has no calls in it does the same at each time.
        if node.is_calling or node.spot not in self.known:
            action = ACTIONS[node.word]
            effect, heads = action(self, node)
            self.known[node.spot] = effect
            self.heads[node.spot] = heads
        return self.known[node.spot]

    def mark(self, place, word):
        """The mask of what a statement with this word does that comes to this place or cell."""
        return 1 << (DIGITS[word] * self.weights[place]) if place in self.weights else KEPT

    def started(self, turn, rounds):
        """What is done ahead of any of so many rounds, each of which does this."""
        told = 0
        at = KEPT
        for _ in range(min(int(rounds), MANY_ROUNDS)):
            told = self.diagrams.joined(told, at)
            at = self.diagrams.followed(at, turn)
        return told

    def repeated(self, turn, rounds):
        """What is done by so many rounds, each of which does this."""
        told = KEPT
        for _ in range(min(int(rounds), MANY_ROUNDS)):
            told = self.diagrams.followed(told, turn)
        return told


def use_effect(effects, node):
    """Of a statement with a name or a cell."""
    if node.word not in DIGITS:
        return {"done": KEPT}, []
    if len(node.row) == 2:
        return {"done": effects.mark(node.target, node.word)}, []
    if not node.has_counter():
        return {"done": effects.mark((*node.target, node.row[2]), node.word)}, []
    rank = node.rank()
    more = node.row[2][1]
    branches = [KEPT]
    for value in effects.marked.get(node.counts[rank].spot, []):
        branches.append(effects.mark((*node.target, value + more), node.word))
    return {"done": effects.diagrams.made(rank, branches)}, []


def either_effect(effects, node):
    """Of an either."""
    effect = {}
    for part in node.parts:
        inner = effects.of_part(part)
        for outcome in inner:
            effects.gain(effect, outcome, inner[outcome])
    return effect, [KEPT] * len(node.parts)


def again_of(effects, inner):
    """What a round does that may be followed by another one, if its block has this effect."""
    return effects.diagrams.joined(inner.get("done", 0), inner.get("next", 0))


def ending_effect(effects, inner, head):
    """The effect of a loop by rounds that are its last ones; the head is the one of its block."""
    effect = {}
    for outcome in inner:
        if outcome not in ("done", "next"):
            told = "done" if outcome == "leave" else outcome
            effects.gain(effect, told, effects.diagrams.followed(head, inner[outcome]))
    return effect


def free_effect(effects, node):
    """Of a while or an ever."""
    inner = effects.of_part(node.parts[0])
    head = effects.started(again_of(effects, inner), MANY_ROUNDS)
    effect = ending_effect(effects, inner, head)
    if node.word == "while":
        effects.gain(effect, "done", head)
    return effect, [head]


def count_effect(effects, node):
    """Of a count."""
    inner = effects.of_part(node.parts[0])
    again = again_of(effects, inner)
    rank = len(node.counts)
    _, _, low, high, _ = node.row
    values = effects.marked.get(node.spot, [])
    heads = [0] * (1 + len(values))
    so_far = KEPT
    for kind, rounds in turns_of(low, high, values):
        turn = effects.diagrams.chosen(again, rank, kind)
        head = effects.diagrams.followed(so_far, effects.started(turn, rounds))
        heads[kind] = effects.diagrams.joined(heads[kind], head)
        so_far = effects.diagrams.followed(so_far, effects.repeated(turn, rounds))
    head = effects.diagrams.parted(rank, heads)
    endings = ending_effect(effects, inner, head)
    effect = {outcome: effects.diagrams.gathered(endings[outcome], rank) for outcome in endings}
    effects.gain(effect, "done", so_far)
    return effect, [head]


def jump_effect(effects, node):
    """Of a leave, a next or a back."""
    return {node.word: KEPT}, []


def fail_effect(effects, node):
    """Of a fail."""
    return {f"fail {node.row[1]}": KEPT}, []


def try_effect(effects, node):
    """Of a try."""
    handlers = node.row[2]
    heads = [KEPT] + [0] * (len(node.parts) - 1)
    inner = effects.of_part(node.parts[0])
    effect = {}
    for outcome in inner:
        at = handler_at(handlers, outcome)
        if at is None:
            effects.gain(effect, outcome, inner[outcome])
        else:
            heads[at + 1] = effects.diagrams.joined(heads[at + 1], inner[outcome])
    for at in range(len(handlers)):
        handled = effects.of_part(node.parts[at + 1])
        for outcome in handled:
            effects.gain(effect, outcome, effects.diagrams.followed(heads[at + 1], handled[outcome]))
    if len(node.parts) == len(handlers) + 1:
        return effect, heads
    for outcome in effect:
        heads[-1] = effects.diagrams.joined(heads[-1], effect[outcome])
    return last_effect(effects, node, effect, heads[-1]), heads


def last_effect(effects, node, before, head):
    """Of a try with a finally block, by the effect of the try without it and the head of this block."""
    last = effects.of_part(node.parts[-1])
    effect = {}
    for outcome in before:
        effects.gain(effect, outcome, effects.diagrams.followed(before[outcome], last.get("done", 0)))
    for outcome in last:
        if outcome != "done":
            effects.gain(effect, outcome, effects.diagrams.followed(head, last[outcome]))
    return effect


def call_effect(effects, node):
    """Of a call."""
    told = effects.ends[node.row[1]]
    return {outcome: told[outcome] for outcome in told}, []


ACTIONS = {
    "set": use_effect, "drop": use_effect, "read": use_effect,
    "put": use_effect, "cut": use_effect, "look": use_effect,
    "either": either_effect, "while": free_effect, "ever": free_effect, "count": count_effect,
    "leave": jump_effect, "next": jump_effect, "back": jump_effect, "fail": fail_effect,
    "try": try_effect, "call": call_effect,
}
