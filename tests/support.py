"""What the tests share: any values, programs at random, and a second reading of the rules of programs.

The second reading is written apart from the package, in another way, so that both can be compared.
"""

import copy

SIZE = 10 ** 30
WORDS = ("a", "b", "c", "d", "e", "f", "g", "x", "y", "z", "ab", "longword")


def sample():
    """The program P of the document."""
    return {
        "main": (None, {"x": "plain", "y": "given"},
                 [("either", [("set", "x")], [("call", "f")]), ("read", "x")]),
        "f": ("main", {"z": "plain"},
              [("while", [("set", "x")]), ("either", [("fail", "w")], [])]),
    }


def main_of(body, names=None):
    """The functions of a program with nothing but main."""
    return {"main": (None, names or {}, body)}


def nested(depth, kind):
    """A value that is nested so deep."""
    value = 1
    for _ in range(depth):
        value = {"list": [value], "tuple": (value,), "dict": {"k": value}}[kind]
    return value


def any_values():
    """A list of values of all kinds."""
    return [
        None, True, False, 0, 1, -1, 7, 10 ** 399, -(10 ** 399), "", "a", "main", "f", "x", "plain", "given",
        "while", "abcdefgh", "abcdefghi", "A", "a1", "a b", "\u00e4", "\n", (), (1,), ("a",), ("main",),
        ("main", ()), ("main", (0,)), ("main", [0]), ["main", (0,)], [], [1], ["a"], [[]], [()], {}, {"a": 1},
        {1: "a"}, {None: None}, {True: False}, {("a", 1): []}, {"main": 1}, (None, {}, []), (None, {}), ("f", {}, []),
        ("set", "x"), ("leave",), ("back",), (None,), ([],), ({},), ("either",), ("either", [], []), (1, 2, 3),
        nested(40, "list"), nested(40, "tuple"), nested(40, "dict"), [nested(39, "dict"), nested(39, "tuple")],
    ]


def failure(action, *args, **more):
    """The name of the class of the error that a call raises, and its fields; None if it raises none."""
    try:
        action(*args, **more)
    except Exception as error:
        return error.__class__.__name__, dict(error.__dict__)
    return None


def kept_block(block):
    """A block as programs keep it, made of a right one."""
    return tuple(kept_statement(statement) for statement in block)


def kept_statement(statement):
    head = statement[0]
    if head == "either":
        return (head, *(kept_block(block) for block in statement[1:]))
    if head in ("while", "ever", "count"):
        return (*statement[:-1], kept_block(statement[-1]))
    if head == "try":
        handlers = tuple((tuple(sorted(words)), kept_block(block)) for words, block in statement[2])
        return (head, kept_block(statement[1]), handlers, kept_block(statement[3]))
    return statement


def kept(functions):
    """The functions as programs keep them, made of right ones."""
    return {name: (functions[name][0], dict(sorted(functions[name][1].items())), kept_block(functions[name][2]))
            for name in sorted(functions)}


class Wrong(Exception):
    """What the second reading finds wrong."""


def need(holds, error, field):
    if not holds:
        raise Wrong(error, field)


def due(functions):
    """The name and the fields of the error that is due for any value as functions; None if none is."""
    try:
        second_reading(functions)
    except Wrong as wrong:
        error, field = wrong.args
        field_name = {"InvalidFunctions": "value", "InvalidStatement": "spot", "TooMany": "limit"}.get(error, "name")
        return error, {field_name: field}
    return None


def wordy(value):
    return value.__class__ is str and 0 < len(value) < 9 and not value.strip("abcdefghijklmnopqrstuvwxyz")


def whole(value):
    return value.__class__ is int


def listy(value):
    return value.__class__ in (list, tuple)


def second_reading(functions):
    right = functions.__class__ is dict and 0 < len(functions) < 13 and "main" in functions
    need(right and all(map(wordy, functions)), "InvalidFunctions", functions)
    for name in sorted(functions):
        need(right_function(functions, name), "InvalidFunction", name)
    for name in sorted(functions):
        need(right_names(functions[name][1]), "InvalidNames", name)
    many = 0
    for name in sorted(functions):
        many += Body(functions, name).check()
    need(many < 151, "TooMany", 150)


def right_function(functions, name):
    value = functions[name]
    if value.__class__ is not tuple or len(value) != 3:
        return False
    if value[0] is None:
        return True
    if name == "main" or not wordy(value[0]) or value[0] not in functions:
        return False
    seen, at = set(), name
    while at not in seen:
        seen.add(at)
        there = functions[at]
        if there.__class__ is not tuple or len(there) != 3 or not wordy(there[0]) or there[0] not in functions:
            return True
        at = there[0]
    return at != name


def right_names(names):
    if names.__class__ is not dict or len(names) > 8 or not all(map(wordy, names)):
        return False
    return all(right_own(own) for own in names.values())


def right_own(own):
    if own in ("plain", "given"):
        return True
    if own.__class__ is not tuple or len(own) != 2 or not whole(own[0]) or own[1].__class__ is not tuple:
        return False
    flat = []
    for pair in own[1]:
        if pair.__class__ is not tuple or len(pair) != 2 or not all(map(whole, pair)):
            return False
        flat.extend(pair)
    if not 1 <= own[0] <= SIZE or any(not 0 <= end <= own[0] for end in flat):
        return False
    return all(low < high for low, high in zip(flat, flat[1:]))


class Body:
    """The second reading of a body."""

    def __init__(self, functions, name):
        self.functions, self.name = functions, name
        self.line = []
        at = name
        while at is not None:
            self.line.append(at)
            at = functions[at][0]
        self.seen = {}
        for at in reversed(self.line):
            self.seen.update(functions[at][1])

    def check(self):
        body = self.functions[self.name][2]
        need(listy(body), "InvalidStatement", (self.name, ()))
        return self.block(body, (), 1, False, {})

    def block(self, block, path, depth, looping, counts):
        return sum(self.statement(value, (*path, at), depth, looping, counts) for at, value in enumerate(block))

    def statement(self, value, path, depth, looping, counts):
        parts = self.parts(value, looping, counts)
        right = parts is not None and (not parts or depth < 8) and all(listy(part) for part in parts)
        need(right, "InvalidStatement", (self.name, path))
        head = value[0]
        if head == "count":
            counts = {**counts, value[1]: (value[2], value[3])}
        looping = looping or head in ("while", "ever", "count")
        if head == "try" and not parts[-1]:
            parts = parts[:-1]
        return 1 + sum(self.block(part, (*path, at), depth + 1, looping, counts) for at, part in enumerate(parts))

    def parts(self, value, looping, counts):
        """The blocks of a statement, whatever they are; None if it is wrong otherwise."""
        if value.__class__ is not tuple or not value or value[0].__class__ is not str:
            return None
        head, *rest = value
        if head in ("set", "drop", "read"):
            return [] if len(rest) == 1 and self.own(rest[0]) is str else None
        if head in ("put", "cut", "look"):
            return [] if len(rest) == 2 and self.own(rest[0]) is tuple and self.cell(*rest, counts) else None
        if head == "either":
            return rest if len(rest) in range(2, 7) else None
        if head in ("while", "ever"):
            return rest if len(rest) == 1 else None
        if head == "count":
            return rest[3:] if len(rest) == 4 and self.count(*rest[:3], counts) else None
        if head in ("leave", "next"):
            return [] if not rest and looping else None
        if head == "back":
            return [] if not rest else None
        if head == "fail":
            return [] if len(rest) == 1 and wordy(rest[0]) else None
        if head == "try":
            return self.try_parts(rest)
        return [] if head == "call" and len(rest) == 1 and self.can_call(rest[0]) else None

    def own(self, value):
        return self.seen[value].__class__ if value.__class__ is str and value in self.seen else None

    def cell(self, array, cell, counts):
        length = self.seen[array][0]
        if whole(cell):
            return cell in range(length)
        if cell.__class__ is not tuple or len(cell) != 2 or cell[0].__class__ is not str or cell[0] not in counts:
            return False
        low, high = counts[cell[0]]
        if not whole(cell[1]) or abs(cell[1]) > SIZE:
            return False
        return low >= high or (low + cell[1] in range(length) and high - 1 + cell[1] in range(length))

    def count(self, counter, low, high, counts):
        if not wordy(counter) or counter in self.seen or counter in counts:
            return False
        return whole(low) and whole(high) and max(abs(low), abs(high)) <= SIZE

    def try_parts(self, rest):
        if len(rest) != 3 or not listy(rest[1]) or len(rest[1]) > 16:
            return None
        for handler in rest[1]:
            if handler.__class__ is not tuple or len(handler) != 2 or not listy(handler[0]):
                return None
            if not all(map(wordy, handler[0])) or len(set(handler[0])) < len(handler[0]):
                return None
        return [rest[0], *(handler[1] for handler in rest[1]), rest[2]]

    def can_call(self, called):
        if called.__class__ is not str or called not in self.functions:
            return False
        reached = {self.name, *self.line}
        for word in self.functions:
            if self.functions[word][0] is None or self.functions[word][0] in self.line:
                reached.add(word)
        return called in reached


class Maker:
    """Programs at random, most of them right, made of lists."""

    def __init__(self, chance):
        self.chance = chance

    def functions(self):
        words = ["main", *self.chance.sample(WORDS[:8], self.chance.randrange(5))]
        made = {}
        for name in words:
            parent = None if name == "main" else self.chance.choice([None, *made])
            made[name] = (parent, self.names(), [])
        for name in words:
            made[name][2].extend(self.block(Body(made, name), 1, False, {}))
        return made

    def names(self):
        names = {}
        for word in self.chance.sample(WORDS, self.chance.randrange(5)):
            names[word] = self.chance.choice(["plain", "given", self.array(), self.array()])
        return names

    def array(self):
        length = self.chance.choice([1, 2, 10, SIZE])
        ends = sorted({self.chance.randrange(length + 1) for _ in range(self.chance.choice([0, 2, 4]))})
        pairs = zip(ends[::2], ends[1::2])
        return length, tuple(pairs)

    def block(self, body, depth, looping, counts):
        return [self.statement(body, depth, looping, counts) for _ in range(self.chance.randrange(4))]

    def statement(self, body, depth, looping, counts):
        kinds = ["use", "cell", "cell", "jump", "fail", "call"]
        if depth < 5:
            kinds += ["either", "while", "ever", "count", "count", "try"]
        kind = self.chance.choice(kinds)
        if kind == "either":
            many = self.chance.randrange(2, 4)
            return ("either", *(self.block(body, depth + 1, looping, counts) for _ in range(many)))
        if kind in ("while", "ever"):
            return kind, self.block(body, depth + 1, True, counts)
        if kind == "count":
            return self.count(body, depth, looping, counts)
        if kind == "try":
            handlers = [(self.chance.sample(WORDS, self.chance.randrange(3)),
                         self.block(body, depth + 1, looping, counts)) for _ in range(self.chance.randrange(3))]
            parts = [self.block(body, depth + 1, looping, counts) for _ in range(2)]
            return "try", parts[0], handlers, parts[1]
        return self.simple(kind, body, looping, counts)

    def count(self, body, depth, looping, counts):
        free = [word for word in WORDS if word not in body.seen and word not in counts]
        if not free:
            return ("back",)
        counter = self.chance.choice(free)
        low = self.chance.choice([0, 0, 1, -3, 5, -SIZE])
        high = low + self.chance.choice([0, 1, 2, 10])
        inner = {**counts, counter: (low, high)}
        return "count", counter, low, high, self.block(body, depth + 1, True, inner)

    def simple(self, kind, body, looping, counts):
        plain = [word for word in body.seen if isinstance(body.seen[word], str)]
        arrays = [word for word in body.seen if isinstance(body.seen[word], tuple)]
        if kind == "use" and plain:
            return self.chance.choice(["set", "drop", "read"]), self.chance.choice(plain)
        if kind == "cell" and arrays:
            array = self.chance.choice(arrays)
            return self.chance.choice(["put", "cut", "look"]), array, self.cell(body.seen[array][0], counts)
        if kind == "jump":
            return (self.chance.choice(["leave", "next", "back"] if looping else ["back"]),)
        if kind == "call":
            called = [word for word in body.functions if body.can_call(word)]
            return "call", self.chance.choice(called)
        return "fail", self.chance.choice(WORDS)

    def cell(self, length, counts):
        fits = [word for word in counts if counts[word][1] - counts[word][0] <= length]
        if fits and self.chance.random() < 0.7:
            counter = self.chance.choice(fits)
            low, high = counts[counter]
            most = length - max(high - low, 1)
            more = self.chance.choice([0, most]) - low
            if abs(more) <= SIZE:
                return counter, more
        return self.chance.choice([0, length - 1])


def broken(chance, value, worth):
    """A copy of the value in which one part, anywhere, is another value."""
    if chance.random() < 0.2 or value.__class__ not in (list, tuple, dict) or not value:
        return worth
    if value.__class__ is dict:
        at = chance.choice(list(value))
        if chance.random() < 0.1 and worth.__hash__ is not None and worth.__class__ is not tuple:
            return {(worth if key == at else key): copy.deepcopy(value[key]) for key in value}
        return {key: broken(chance, value[key], worth) if key == at else copy.deepcopy(value[key]) for key in value}
    at = chance.randrange(len(value))
    parts = [broken(chance, part, worth) if k == at else copy.deepcopy(part) for k, part in enumerate(value)]
    return parts if value.__class__ is list else tuple(parts)
