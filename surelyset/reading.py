"""Reading the text of a program."""

from surelyset.errors import InvalidText
from surelyset.lines import line_parts

NAME_LINES = ("plain", "given", "array")
OPENING = ("either", "while", "ever", "count", "try")


def functions_of(text):
    """The functions that a text tells, not checked as those of a program; InvalidText for any other value."""
    if not isinstance(text, str):
        raise InvalidText(0)
    lines = text.split("\n")
    reader = Reader()
    for at, line in enumerate(lines):
        parts = line_parts(line)
        if parts is None or not reader.take(parts):
            raise InvalidText(at)
    if reader.stack:
        raise InvalidText(len(lines))
    return reader.table


class Unclosed:
    """A statement whose end is not read yet.

    The head tells its first parts; the words are those of each handler.
    """

    def __init__(self, head):
        self.head = head
        self.blocks = [[]]
        self.words = []
        self.has_last = False

    def is_in_either(self):
        """Whether a further block of an either may begin."""
        return self.head[0] == "either"

    def is_in_try(self):
        """Whether a handler or the last block of a try may begin."""
        return self.head[0] == "try" and not self.has_last

    def may_end(self):
        """Whether the end may stand here: a last block may not be empty."""
        return not self.has_last or len(self.blocks[-1]) > 0

    def begin_block(self):
        """A further block begins."""
        self.blocks.append([])

    def begin_handler(self, words):
        """A handler for these words begins."""
        self.words.append(words)
        self.blocks.append([])

    def begin_last(self):
        """The last block of a try begins."""
        self.has_last = True
        self.blocks.append([])

    def statement(self):
        """The statement with its blocks."""
        if self.head[0] != "try":
            return (*self.head, *self.blocks)
        handlers = list(zip(self.words, self.blocks[1:]))
        return ("try", self.blocks[0], handlers, self.blocks[-1] if self.has_last else [])


class Reader:
    """What is read so far: a table of the functions, and a stack of the statements that are not closed."""

    def __init__(self):
        self.table = {}
        self.stack = []
        self.function = ""
        self.own_word = ""
        self.takes_names = False

    def take(self, parts):
        """Whether the line with these parts can stand here; if so, it is read."""
        word = parts[0]
        if word == "function":
            return self.begin_function(parts)
        if self.function == "":
            return False
        if word in NAME_LINES:
            return self.add_name(parts)
        self.takes_names = False
        if word == "end":
            return self.close()
        if word in ("or", "on", "finally"):
            return self.begin_part(parts)
        if word in OPENING:
            self.stack.append(Unclosed(parts))
        else:
            self.add_statement(parts)
        return True

    def begin_function(self, parts):
        """Whether a function can begin here; if so, it does."""
        _, name, parent = parts
        if self.stack or name <= self.function:
            return False
        self.table[name] = (parent, {}, [])
        self.function = name
        self.own_word = ""
        self.takes_names = True
        return True

    def add_name(self, parts):
        """Whether an own name can stand here; if so, the function has it."""
        word = parts[1]
        if not self.takes_names or word <= self.own_word:
            return False
        names = self.table[self.function][1]
        names[word] = parts[2:] if parts[0] == "array" else parts[0]
        self.own_word = word
        return True

    def begin_part(self, parts):
        """Whether a further block of the innermost statement can begin here; if so, it does."""
        if not self.stack:
            return False
        inner = self.stack[-1]
        if parts[0] == "or":
            if not inner.is_in_either():
                return False
            inner.begin_block()
            return True
        if not inner.is_in_try():
            return False
        if parts[0] == "on":
            inner.begin_handler(list(parts[1:]))
        else:
            inner.begin_last()
        return True

    def close(self):
        """Whether the innermost statement can end here; if so, it does."""
        if not self.stack or not self.stack[-1].may_end():
            return False
        inner = self.stack.pop()
        self.add_statement(inner.statement())
        return True

    def add_statement(self, statement):
        """The innermost block goes on with the statement."""
        if self.stack:
            self.stack[-1].blocks[-1].append(statement)
        else:
            body = self.table[self.function][2]
            body.append(statement)
