"""Small programs at random in which most spots are come to, for comparing with a second reading."""

from tests.support import Body


class SmallMaker:
    """Makes functions with few names, short arrays, and few statements."""

    def __init__(self, chance, statements=20, depth=4, functions=3, names=3, length=4):
        self.chance = chance
        self.left = statements
        self.depth = depth
        self.many_functions = functions
        self.many_names = names
        self.length = length

    def functions(self):
        words = ["main", *self.chance.sample(["e", "f", "g", "h"], self.chance.randrange(self.many_functions + 1))]
        made = {}
        for name in words:
            parent = None if name == "main" else self.chance.choice([None, *made, *made, *made])
            made[name] = (parent, self.names(), [])
        for name in words[::-1]:
            share = self.left // len(words) + 1
            made[name][2].extend(self.block(Body(made, name), 1, False, {}, share))
        for name in words[1:]:
            caller = made[made[name][0] or "main"][2]
            caller.insert(self.chance.randrange(len(caller) // 2 + 1), ("either", [("call", name)], []))
        return made

    def names(self):
        names = {}
        for word in self.chance.sample(["a", "b", "x", "y", "z"], self.chance.randrange(1, self.many_names + 1)):
            names[word] = self.chance.choice(["plain", "plain", "given", self.array(), self.array()])
        return names

    def array(self):
        length = self.chance.randrange(1, self.length + 1)
        ends = sorted({self.chance.randrange(length + 1) for _ in range(self.chance.choice([0, 0, 2]))})
        return length, tuple(zip(ends[::2], ends[1::2]))

    def block(self, body, depth, looping, counts, share):
        made = []
        while share > 0 and len(made) < 5:
            before = self.left
            made.append(self.statement(body, depth, looping, counts, share))
            share -= max(before - self.left, 1)
            if self.chance.random() < 0.1:
                break
        return made

    def parts(self, many, body, depth, looping, counts, share):
        return [self.block(body, depth + 1, looping, counts, share // many) for _ in range(many)]

    def statement(self, body, depth, looping, counts, share):
        self.left -= 1
        kind = self.chance.choice(["use", "use", "cell", "cell", "cell", "jump", "call", "call"])
        if depth < self.depth and share > 1:
            kind = self.chance.choice([kind, kind, "either", "while", "ever", "count", "count", "try", "try"])
        if kind == "either":
            return ("either", *self.parts(self.chance.choice([2, 2, 3]), body, depth, looping, counts, share - 1))
        if kind == "while":
            return "while", *self.parts(1, body, depth, True, counts, share - 1)
        if kind == "ever":
            inner = self.block(body, depth + 1, True, counts, share - 1)
            jump = ("either", [], [("leave",)]) if depth + 1 < self.depth else ("leave",)
            inner.insert(self.chance.randrange(len(inner) + 1), jump)
            return "ever", inner
        if kind == "count":
            return self.count(body, depth, counts, share - 1)
        if kind == "try":
            return self.try_statement(body, depth, looping, counts, share - 1)
        return self.simple(kind, body, depth, looping, counts)

    def count(self, body, depth, counts, share):
        free = [word for word in ("i", "j", "k") if word not in counts]
        if not free:
            return "either", [], []
        low = self.chance.choice([0, 0, 1, -2])
        high = low + self.chance.choice([0, 1, 1, 2, 2, 3, 3, 4, 4])
        return "count", free[0], low, high, self.block(body, depth + 1, True, {**counts, free[0]: (low, high)}, share)

    def try_statement(self, body, depth, looping, counts, share):
        many = self.chance.randrange(3)
        first, last, *others = self.parts(2 + many, body, depth, looping, counts, share)
        handlers = [(self.chance.sample(["u", "w"], self.chance.choice([0, 1, 1])), other) for other in others]
        return "try", first, handlers, last if self.chance.random() < 0.6 else []

    def simple(self, kind, body, depth, looping, counts):
        plain = [word for word in body.seen if isinstance(body.seen[word], str)]
        arrays = [word for word in body.seen if isinstance(body.seen[word], tuple)]
        if kind == "cell" and arrays:
            array = self.chance.choice(arrays)
            return self.chance.choice(["put", "cut", "look"]), array, self.cell(body.seen[array][0], counts)
        if kind == "call":
            return self.call(body, depth)
        if kind == "jump":
            jump = self.chance.choice([("leave",), ("next",), ("back",), ("fail", "u"), ("fail", "w")])
            if jump[0] in ("leave", "next") and not looping:
                jump = ("fail", "u")
            return self.perhaps(jump, depth)
        if plain:
            return self.chance.choice(["set", "drop", "read"]), self.chance.choice(plain)
        return "either", [], []

    def perhaps(self, statement, depth):
        if depth < self.depth and self.chance.random() < 0.9:
            return "either", [statement], []
        return statement

    def call(self, body, depth):
        called = [word for word in body.functions if body.can_call(word)]
        fresh = [word for word in called if word != "main" and word not in body.line]
        if fresh and self.chance.random() < 0.8:
            return "call", self.chance.choice(fresh)
        return self.perhaps(("call", self.chance.choice(called)), depth)

    def cell(self, length, counts):
        fits = [word for word in counts if counts[word][1] - counts[word][0] <= length]
        if fits and self.chance.random() < 0.8:
            counter = self.chance.choice(fits)
            low, high = counts[counter]
            return counter, self.chance.randrange(length - max(high - low, 1) + 1) - low
        return self.chance.randrange(length)
