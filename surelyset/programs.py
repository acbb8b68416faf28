"""Programs: functions with names, arrays and bodies, which never change."""

from surelyset.blocks import spot_table
from surelyset.checks import checked
from surelyset.errors import UnknownFunction, UnknownName, UnknownSpot
from surelyset.kinds import has_word_form, is_integer, is_tuple_of
from surelyset.reading import functions_of
from surelyset.sights import owners_of
from surelyset.texts import text_of


class Program:
    """A program of functions: a dict from words to tuples (parent, names, body)."""

    MAX_FUNCTIONS = 12
    MAX_NAMES = 8
    MAX_STATEMENTS = 150
    MAX_DEPTH = 8
    MAX_SIZE = 1000000000000000000000000000000

    def __init__(self, functions):
        self._functions = checked(functions)
        self._owners = {name: owners_of(self._functions, name) for name in self._functions}
        self._table = spot_table(self._functions)
        self._begun = [spot for spot in self._table if self._table[spot] is not None]
        self._text = text_of(self._functions)

    @classmethod
    def of(cls, *functions):
        """The program of tuples (name, parent, names, body)."""
        return cls({name: (parent, names, body) for name, parent, names, body in functions})

    @classmethod
    def read(cls, text):
        """The program with this text; InvalidText for any value that is not the text of one."""
        return cls(functions_of(text))

    @staticmethod
    def is_word(value):
        """Whether any value is a word."""
        return has_word_form(value)

    @property
    def functions(self):
        """The functions: a dict from words to tuples (parent, names, body)."""
        return {name: self._told(name) for name in self._functions}

    @property
    def names(self):
        """The words of the functions, ascending."""
        return tuple(self._functions)

    @property
    def spots(self):
        """All spots, ascending."""
        return tuple(self._table)

    @property
    def text(self):
        """The text of the program, which Program.read reads."""
        return self._text

    def __iter__(self):
        raise TypeError("a program is not iterated over")

    def __len__(self):
        return len(self._begun)

    def __contains__(self, x):
        return isinstance(x, str) and x in self._functions

    def __getitem__(self, at):
        if not isinstance(at, str) or at not in self._functions:
            raise UnknownFunction(at)
        return self._told(at)

    def __eq__(self, other):
        return isinstance(other, Program) and self._functions == other._functions

    def _told(self, name):
        """A function as a tuple; its dict of own names is a new one."""
        parent, names, body = self._functions[name]
        return parent, {word: names[word] for word in names}, body

    def statement(self, spot):
        """The statement at a spot, None at the end of a block."""
        if not is_spot_form(spot) or spot not in self._table:
            raise UnknownSpot(spot)
        return self._table[spot]

    def owner(self, function, name):
        """The function that has the name or array which a function sees under this word."""
        if not isinstance(function, str) or function not in self._functions:
            raise UnknownFunction(function)
        owners = self._owners[function]
        if not isinstance(name, str) or name not in owners:
            raise UnknownName(name)
        return owners[name]

    def with_function(self, name, function):
        """The program with this tuple for a function, which is new or takes the place of the old one."""
        functions = {word: self._told(word) for word in self._functions}
        functions[name] = function
        return Program(functions)

    def without(self, *names):
        """The program without these functions."""
        functions = {word: self._told(word) for word in self._functions}
        for name in names:
            if not isinstance(name, str) or name not in functions:
                raise UnknownFunction(name)
            del functions[name]
        return Program(functions)


def is_spot_form(value):
    """Whether any value has the form of a spot; as a key, True would stand for 1."""
    if not is_tuple_of(value, 2) or not isinstance(value[0], str) or not isinstance(value[1], tuple):
        return False
    return all([is_integer(index) for index in value[1]])
