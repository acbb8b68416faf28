"""What statements and blocks do to a few places.

An effect is a dict from outcomes to diagrams of what is done to the places up to this outcome, none of them 0.
The heads of a statement are a list of diagrams, one for each of its blocks: of what is done from the beginning
of the statement to the beginnings of the block, any of its rounds counted.

What is done in a part of a statement is wrapped with a tag: ("either", k) for the block k, ("round",) for a
round, ("part", k) for the blocks of a try (its own one, the handler, the last one), ("loop",) for all rounds of a
loop and ("try",) for all parts of a try. Heads are wrapped with tags that begin with "open".
"""

from surelyset.blocks import handler_at
from surelyset.diagrams import MANY_ROUNDS
from surelyset.marks import KEEP, KEPT
from surelyset.turns import turns_of, values_of

# The digits of set and unset.
DIGITS = {"set": 1, "put": 1, "drop": 2, "cut": 2}


class Effects:
    """Effects for places; ends is a dict from functions to those of calls, dicts from outcomes to leaves."""

    def __init__(self, outline, diagrams, places, ends):
        self.diagrams = diagrams
        self.weights = {}
        weight = 1
        for place in places:
            self.weights[place] = weight
            weight *= 3
        self.marked = values_of(outline, places)
        self.ends = ends
        self.known = {}
        self.heads = {}

    def of_part(self, part):
        """The effect of a block."""
        effect = {}
        so_far = KEPT
        for node in part.nodes:
            if so_far == 0:
                break
            own = self.of_node(node)
            for outcome in own:
                if outcome != "done":
                    self.gain(effect, outcome, self.diagrams.followed(so_far, own[outcome]))
            so_far = self.diagrams.followed(so_far, own.get("done", 0))
        self.gain(effect, "done", so_far)
        return effect

    def gain(self, effect, outcome, one):
        """Lets an effect come to an outcome also in this way."""
        if one != 0:
            effect[outcome] = self.diagrams.joined(effect.get(outcome, 0), one)

    def of_node(self, node):
        """The effect of a statement, whose heads are kept."""
        # What has no calls in it does the same at each time.
        if node.is_calling or node.spot not in self.known:
            action = ACTIONS[node.word]
            effect, heads = action(self, node)
            self.known[node.spot] = effect
            self.heads[node.spot] = heads
        return self.known[node.spot]

    def marked_leaf(self, place, word):
        """The leaf of what a statement with this word does that comes to this place or cell."""
        return self.diagrams.leaf(DIGITS[word] * self.weights[place] if place in self.weights else KEEP)

    def begun(self, one):
        """What a statement or a round does that begins and then does this."""
        return self.diagrams.followed(self.diagrams.step, one)

    def whole(self, effect, tag):
        """The effect of a statement whose blocks have this effect together."""
        return {outcome: self.begun(self.diagrams.wrapped(effect[outcome], tag)) for outcome in effect}

    def opened(self, one, tag):
        """The head of a block of a statement that does this before."""
        return self.begun(self.diagrams.wrapped(one, ("open", *tag)))

    def a_round(self, one):
        """What a round does whose block does this."""
        return self.begun(self.diagrams.wrapped(one, ("round",)))


def use_effect(effects, node):
    """Of a statement with a name or a cell."""
    if node.word not in DIGITS:
        return {"done": effects.begun(KEPT)}, []
    if len(node.row) == 2:
        return {"done": effects.begun(effects.marked_leaf(node.target, node.word))}, []
    if not node.has_counter():
        return {"done": effects.begun(effects.marked_leaf((*node.target, node.row[2]), node.word))}, []
    rank = node.rank()
    more = node.row[2][1]
    branches = [KEPT]
    for value in effects.marked.get(node.counts[rank].spot, []):
        branches.append(effects.marked_leaf((*node.target, value + more), node.word))
    return {"done": effects.begun(effects.diagrams.made(rank, branches))}, []


def either_effect(effects, node):
    """Of an either."""
    effect = {}
    heads = []
    for at, part in enumerate(node.parts):
        inner = effects.whole(effects.of_part(part), ("either", at))
        for outcome in inner:
            effects.gain(effect, outcome, inner[outcome])
        heads.append(effects.opened(KEPT, ("either", at)))
    return effect, heads


def again_of(effects, inner):
    """What a round does that may be followed by another one, if its block has this effect."""
    return effects.a_round(effects.diagrams.joined(inner.get("done", 0), inner.get("next", 0)))


def ending_effect(effects, inner, head):
    """What the rounds of a loop do of which the last one ends it, if this is done ahead of a round."""
    effect = {}
    for outcome in inner:
        if outcome not in ("done", "next"):
            told = "done" if outcome == "leave" else outcome
            effects.gain(effect, told, effects.diagrams.followed(head, effects.a_round(inner[outcome])))
    return effect


def loop_head(effects, head):
    """The head of a loop's block, if this is done ahead of a round."""
    return effects.diagrams.followed(effects.opened(head, ("loop",)), effects.diagrams.step)


def free_effect(effects, node):
    """Of a while or an ever."""
    inner = effects.of_part(node.parts[0])
    head = effects.diagrams.started(again_of(effects, inner), MANY_ROUNDS)
    effect = ending_effect(effects, inner, head)
    if node.word == "while":
        effects.gain(effect, "done", head)
    return effects.whole(effect, ("loop",)), [loop_head(effects, head)]


def count_effect(effects, node):
    """Of a count."""
    diagrams = effects.diagrams
    inner = effects.of_part(node.parts[0])
    again = again_of(effects, inner)
    rank = len(node.counts)
    _, _, low, high, _ = node.row
    values = effects.marked.get(node.spot, [])
    heads = [0] * (1 + len(values))
    so_far = KEPT
    for kind, rounds in turns_of(low, high, values):
        turn = diagrams.chosen(again, rank, kind)
        head = diagrams.followed(so_far, diagrams.started(turn, rounds))
        heads[kind] = diagrams.joined(heads[kind], head)
        so_far = diagrams.followed(so_far, diagrams.repeated(turn, rounds))
    head = diagrams.parted(rank, heads)
    endings = ending_effect(effects, inner, head)
    effect = {outcome: diagrams.gathered(endings[outcome], rank) for outcome in endings}
    effects.gain(effect, "done", so_far)
    return effects.whole(effect, ("loop",)), [loop_head(effects, head)]


def jump_effect(effects, node):
    """Of a leave, a next or a back."""
    return {node.word: effects.begun(KEPT)}, []


def fail_effect(effects, node):
    """Of a fail."""
    return {f"fail {node.row[1]}": effects.begun(KEPT)}, []


def try_effect(effects, node):
    """Of a try."""
    diagrams = effects.diagrams
    handlers = node.row[2]
    befores = [KEPT] + [0] * (len(node.parts) - 1)
    inner = effects.of_part(node.parts[0])
    effect = {}
    for outcome in inner:
        at = handler_at(handlers, outcome)
        told = diagrams.wrapped(inner[outcome], ("part", 0))
        if at is None:
            effects.gain(effect, outcome, told)
        else:
            befores[at + 1] = diagrams.joined(befores[at + 1], told)
    for at in range(len(handlers)):
        handled = effects.of_part(node.parts[at + 1])
        for outcome in handled:
            told = diagrams.wrapped(handled[outcome], ("part", 1))
            effects.gain(effect, outcome, diagrams.followed(befores[at + 1], told))
    kinds = [0] + [1] * len(handlers)
    if len(node.parts) > len(kinds):
        kinds.append(2)
        for outcome in effect:
            befores[-1] = diagrams.joined(befores[-1], effect[outcome])
        effect = last_effect(effects, node, effect, befores[-1])
    heads = [effects.opened(before, ("try", kind)) for before, kind in zip(befores, kinds)]
    return effects.whole(effect, ("try",)), heads


def last_effect(effects, node, before, ahead):
    """Of the parts of a try with a last block, by the effect of those before it and what is done ahead of it."""
    last = effects.of_part(node.parts[-1])
    effect = {}
    for outcome in last:
        told = effects.diagrams.wrapped(last[outcome], ("part", 2))
        if outcome != "done":
            effects.gain(effect, outcome, effects.diagrams.followed(ahead, told))
        else:
            for other in before:
                effects.gain(effect, other, effects.diagrams.followed(before[other], told))
    return effect


def call_effect(effects, node):
    """Of a call."""
    told = effects.ends[node.row[1]]
    return {outcome: effects.begun(told[outcome]) for outcome in told}, []


ACTIONS = {
    "set": use_effect, "drop": use_effect, "read": use_effect,
    "put": use_effect, "cut": use_effect, "look": use_effect,
    "either": either_effect, "while": free_effect, "ever": free_effect, "count": count_effect,
    "leave": jump_effect, "next": jump_effect, "back": jump_effect, "fail": fail_effect,
    "try": try_effect, "call": call_effect,
}
