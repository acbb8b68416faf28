"""The errors of the package. Each keeps copies of its fields as attributes."""

from surelyset.kinds import copied


class InvalidFunctions(ValueError):
    """Not a dict of 1 to 12 words, main among them."""

    def __init__(self, value):
        ValueError.__init__(self, "this is no dict of the functions of a program")
        self.value = copied(value)


class InvalidFunction(ValueError):
    """A function that is no tuple of three, or with a wrong parent."""

    def __init__(self, name):
        ValueError.__init__(self, "a function is no tuple of three or its parent is wrong")
        self.name = copied(name)


class InvalidNames(ValueError):
    """A function whose own names are wrong."""

    def __init__(self, name):
        ValueError.__init__(self, "the own names of a function are wrong")
        self.name = copied(name)


class InvalidStatement(ValueError):
    """A statement that is wrong, or a body that is no list."""

    def __init__(self, spot):
        ValueError.__init__(self, "a statement is wrong")
        self.spot = copied(spot)


class InvalidChoice(ValueError):
    """A choice of a run that is needed and is none."""

    def __init__(self, index):
        ValueError.__init__(self, "a choice that is needed is none")
        self.index = copied(index)


class InvalidPlaces(ValueError):
    """Not a list of places as they are asked for."""

    def __init__(self, value):
        ValueError.__init__(self, "these are no places as they are asked for")
        self.value = copied(value)


class InvalidPaper(ValueError):
    """Not a closed table."""

    def __init__(self, value):
        ValueError.__init__(self, "this is no closed table")
        self.value = copied(value)


class InvalidPrices(ValueError):
    """Not a dict of prices of free spots."""

    def __init__(self, value):
        ValueError.__init__(self, "these are no prices of free spots")
        self.value = copied(value)


class InvalidProfile(ValueError):
    """Not a part of a profile, or a profile with other names."""

    def __init__(self, value):
        ValueError.__init__(self, "this is no part of such a profile")
        self.value = copied(value)


class InvalidText(ValueError):
    """A line that cannot stand in the text of a program."""

    def __init__(self, line):
        ValueError.__init__(self, "a line cannot stand in the text of a program")
        self.line = copied(line)


class InvalidStates(ValueError):
    """Not the states that are asked for."""

    def __init__(self, value):
        ValueError.__init__(self, "these are no states as they are asked for")
        self.value = copied(value)


class NotClosed(ValueError):
    """A statement that makes its function not closed."""

    def __init__(self, spot):
        ValueError.__init__(self, "a statement makes the function not closed")
        self.spot = copied(spot)


class Faulty(ValueError):
    """A fault that reads what is guarded."""

    def __init__(self, spot):
        ValueError.__init__(self, "what is guarded is read unset")
        self.spot = copied(spot)


class UnknownFunction(KeyError):
    """Not the word of a function."""

    def __init__(self, value):
        KeyError.__init__(self, "this is no function of the program")
        self.value = copied(value)


class UnknownSpot(KeyError):
    """Not a spot that is asked for."""

    def __init__(self, value):
        KeyError.__init__(self, "this is no such spot of the program")
        self.value = copied(value)


class UnknownName(KeyError):
    """Not a name that is asked for."""

    def __init__(self, value):
        KeyError.__init__(self, "this is no such name of the program")
        self.value = copied(value)


class OutOfRange(IndexError):
    """Not a number in the range that is asked for."""

    def __init__(self, value):
        IndexError.__init__(self, "this is out of range")
        self.value = copied(value)


class TooMany(OverflowError):
    """More than a limit lets by."""

    def __init__(self, limit):
        OverflowError.__init__(self, "this is more than the limit")
        self.limit = copied(limit)


class InTrial(RuntimeError):
    """Undo or redo while a trial, an attempt or a try goes on."""

    def __init__(self):
        RuntimeError.__init__(self, "no undo and no redo while a trial goes on")
