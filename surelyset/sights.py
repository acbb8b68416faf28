"""What functions see and can call, and where their blocks stand."""


def line_of(functions, name):
    """The function and those around it, the nearest first."""
    line = []
    at = name
    while at is not None:
        line.append(at)
        at = functions[at][0]
    return line


def owners_of(functions, name):
    """A dict from the words that a function sees as names or arrays to their owners."""
    owners = {}
    for owner in line_of(functions, name)[::-1]:
        for word in functions[owner][1]:
            owners[word] = owner
    return owners


def can_call(functions, name, called):
    """Whether the function can call the other one."""
    parent = functions[called][0]
    return parent is None or parent in line_of(functions, name)


class Sight:
    """What the statements of a function see, and what they can call."""

    def __init__(self, functions, name):
        owners = owners_of(functions, name)
        self.function = name
        self.kinds = {word: functions[owners[word]][1][word] for word in owners}
        self.callees = [called for called in functions if can_call(functions, name, called)]

    def is_seen(self, value):
        """Whether any value is a name or an array that is seen."""
        return isinstance(value, str) and value in self.kinds

    def is_plain(self, value):
        """Whether any value is a name that is seen, and no array."""
        return self.is_seen(value) and isinstance(self.kinds[value], str)

    def is_array(self, value):
        """Whether any value is an array that is seen."""
        return self.is_seen(value) and isinstance(self.kinds[value], tuple)

    def length(self, array):
        """The length of an array that is seen."""
        return self.kinds[array][0]

    def is_callee(self, value):
        """Whether any value is a function that can be called."""
        return isinstance(value, str) and value in self.callees


class Standing:
    """Where the statements of a block stand: how deep, in a loop or not, and in which counts.

    The counters are a dict from words to tuples (low, high).
    """

    def __init__(self, level, is_looping, counters):
        self.level = level
        self.is_looping = is_looping
        self.counters = counters

    def inner(self):
        """Of a block of an either or a try."""
        return Standing(self.level + 1, self.is_looping, self.counters)

    def looping(self):
        """Of the block of a loop without a counter."""
        return Standing(self.level + 1, True, self.counters)

    def counting(self, counter, low, high):
        """Of the block of a count."""
        counters = {word: self.counters[word] for word in self.counters}
        counters[counter] = (low, high)
        return Standing(self.level + 1, True, counters)
