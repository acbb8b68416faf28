"""A second reading of profiles: all runs of closed functions, gone through plainly for each of the names."""

from tests.plainly import Plainly, line
from tests.support import Body, SIZE

ENDS = ("set", "keep", "unset")
READS = ("none", "entry", "always")


def inside(functions, name):
    """The function and those that it is around."""
    return [other for other in functions if name in line(functions, other)]


def spots_in(functions, name):
    """Tuples of a spot of the function and the statement there, ascending."""

    def in_block(block, path):
        for at, statement in enumerate(block):
            yield (name, (*path, at)), statement
            parts = []
            if statement[0] == "either":
                parts = statement[1:]
            elif statement[0] in ("while", "ever", "count"):
                parts = statement[-1:]
            elif statement[0] == "try":
                parts = (statement[1], *(handler for _, handler in statement[2]), statement[3])
            for part, inner in enumerate(parts):
                yield from in_block(inner, (*path, at, part))

    return list(in_block(functions[name][2], ()))


def first_open(functions, name):
    """The first spot, ascending, of a statement that makes the function not closed, None if there is none."""
    own = inside(functions, name)
    found = []
    for other in own:
        for spot, statement in spots_in(functions, other):
            if statement[0] == "call" and statement[1] not in own:
                found.append(spot)
            if statement[0] in ("put", "cut", "look"):
                owner = next(each for each in line(functions, other) if statement[1] in functions[each][1])
                if owner not in own:
                    found.append(spot)
    return min(found, default=None)


def names_of(functions, name):
    """A dict from the plain and given names that the function's parent sees to their owners."""
    found = {}
    for each in reversed(line(functions, functions[name][0])):
        for word, own in functions[each][1].items():
            found.pop(word, None)
            if isinstance(own, str):
                found[word] = each
    return found


def profiled(functions, name):
    """The tuple (outcomes, reads) of the profile of a closed function."""
    names = names_of(functions, name)
    bare, _ = runs_of(functions, name, None, None, None)
    outcomes = {outcome: {} for outcome in sorted(bare)}
    reads = {}
    for word in sorted(names):
        ends, _ = runs_of(functions, name, word, names[word], None)
        for outcome in outcomes:
            outcomes[outcome][word] = max(ends[outcome], key=ENDS.index)
        is_unset = {state: runs_of(functions, name, word, names[word], state)[1] for state in (True, False)}
        reads[word] = "always" if is_unset[True] else "entry" if is_unset[False] else "none"
    return outcomes, reads


def runs_of(functions, name, word, owner, state):
    """What runs of the function do with a name of a function around it that begins like this, None for unknown.

    A dict from outcomes to sets of ends, and whether some run reads the name unset.
    """
    plainly = Plainly(functions, {(owner, word)})
    around = []
    for each in line(functions, functions[name][0]):
        worths = ((word, state),) if each == owner else ()
        around.append((each, worths))
    found = {}
    for outcome, after in plainly.solve((name, tuple(around))):
        worth = None if word is None else plainly.worth(after, owner, word)
        found.setdefault(outcome, set()).add({None: "keep", True: "set", False: "unset"}[worth])
    is_unset = False
    for spot, chains in plainly.visits.items():
        if word is not None and dict(spots_in(plainly.functions, spot[0])).get(spot) == ("read", word):
            if plainly.key_in(spot[0], word)[0] == owner:
                is_unset = is_unset or any(plainly.worth(chain, owner, word) is False for chain, _ in chains)
    return found, is_unset


class Closer:
    """Makes at random functions f with children, which are closed, and a main that calls f and g, which calls f."""

    def __init__(self, chance, statements=14, kinds=("plain", "given"), children="abc"):
        self.chance, self.left, self.kinds, self.children = chance, statements, kinds, children

    def functions(self, names=None):
        chance = self.chance
        names = names or {word: chance.choice(self.kinds) for word in chance.sample("xyz", chance.choice([1, 2, 3]))}
        made = {"main": (None, names, []), "g": ("main", self.own(names, 1), []), "f": ("g", self.own(names, 2), [])}
        for word in self.children[:chance.choice([0, 1, 2, 3])]:
            made[word] = (chance.choice(["f", *[one for one in made if one in self.children]]), self.own(names, 2), [])
        share = self.left // (len(made) - 1)
        for word in made:
            made[word][2].extend(self.block(Body(made, word), made, 1, False, share))
        for word in list(made)[3:]:
            caller = made[made[word][0]][2]
            caller.insert(chance.randrange(len(caller) + 1), ("call", word))
        for word, called in (("g", "f"), ("main", "g")):
            body = made[word][2]
            body.insert(chance.randrange(len(body) + 1), ("call", called))
        return made

    def own(self, names, rarely):
        """Own names, perhaps some that hide others."""
        found = {}
        for word in [*names, "p", "q"]:
            if self.chance.random() < 0.3 / rarely:
                found[word] = self.chance.choice(["plain", "given", (SIZE, ())])
        return found

    def block(self, body, made, depth, looping, share):
        return [self.statement(body, made, depth, looping, share // 2) for _ in range(min(share, self.chance.randrange(4)))]

    def statement(self, body, made, depth, looping, share):
        chance = self.chance
        head = chance.choice(["use", "use", "use", "jump", "call", "either", "either", "while", "count", "try", "ever"])
        parts = [self.block(body, made, depth + 1, looping or head in ("while", "count"), share) for _ in range(3)]
        if depth > 3:
            head = chance.choice(["use", "use", "jump"])
        if head == "either":
            return head, *parts[:2]
        if head == "while":
            return head, parts[0]
        if head == "ever":
            return ("either", [(head, [*parts[0], ("either", [], [("leave",)])])], []) if depth < 3 else ("either", [], [])
        if head == "count":
            return head, "v" + "uvwxyz"[depth], 0, chance.choice([0, 1, 2, 2]), parts[0]
        if head == "try":
            handlers = [(chance.sample(["u", "w"], chance.choice([0, 1])), parts[1])]
            return head, parts[0], handlers[:chance.randrange(2)], parts[2] if chance.random() < 0.4 else []
        if head == "call":
            called = [word for word in made if word not in ("main", "g") and body.can_call(word)]
            if called:
                return "either", [("call", chance.choice(called))], []
        if head == "jump":
            jump = chance.choice([("back",), ("fail", "u"), ("fail", "w"), ("leave",), ("next",)])
            if jump[0] in ("leave", "next") and not looping:
                jump = ("fail", "w")
            return ("either", [jump], []) if depth < 5 else jump
        plain = [word for word in body.seen if isinstance(body.seen[word], str)]
        return (chance.choice(["set", "drop", "read", "read"]), chance.choice(plain)) if plain else ("either", [], [])
