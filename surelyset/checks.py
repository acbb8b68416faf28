"""The functions of a program, checked and as a program keeps them."""

from surelyset.blocks import LOOPS, many_statements
from surelyset.errors import InvalidFunction, InvalidFunctions, InvalidNames, InvalidStatement, TooMany
from surelyset.kinds import copied, has_word_form, is_integer, is_list, is_tuple_of
from surelyset.limits import MAX_FUNCTIONS, MAX_NAMES, MAX_SIZE, MAX_STATEMENTS
from surelyset.sights import Sight, Standing
from surelyset.statements import is_right


def checked(functions):
    """The functions as a program keeps them, ascending; for any value that is none the error that is due."""
    if not are_functions(functions):
        raise InvalidFunctions(functions)
    order = sorted(set(functions))
    for name in order:
        if not is_function(functions, name):
            raise InvalidFunction(name)
    for name in order:
        if not are_own_names(functions[name][1]):
            raise InvalidNames(name)
    kept = {name: kept_function(functions, name) for name in order}
    if sum([many_statements(kept[name][2]) for name in order]) > MAX_STATEMENTS:
        raise TooMany(MAX_STATEMENTS)
    return kept


def are_words(values):
    """Whether these are words, all of them."""
    return all([has_word_form(value) for value in values])


def are_functions(value):
    """Whether any value is a dict from words, main among them, to whatever it be."""
    if not isinstance(value, dict) or len(value) > MAX_FUNCTIONS:
        return False
    return "main" in value and are_words(list(value))


def parent_of(functions, name):
    """The parent of a function if it has one among the functions, otherwise None."""
    value = functions[name]
    if not is_tuple_of(value, 3):
        return None
    parent = value[0]
    return parent if isinstance(parent, str) and parent in functions else None


def is_on_ring(functions, name):
    """Whether a function is around itself."""
    at = parent_of(functions, name)
    for _ in functions:
        if at is None or at == name:
            break
        at = parent_of(functions, at)
    return at == name


def is_function(functions, name):
    """Whether the function is a tuple of three with a parent that it may have."""
    value = functions[name]
    if not is_tuple_of(value, 3):
        return False
    if value[0] is None:
        return True
    return name != "main" and parent_of(functions, name) is not None and not is_on_ring(functions, name)


def are_own_names(value):
    """Whether any value is what a function may have of its own."""
    if not isinstance(value, dict) or len(value) > MAX_NAMES or not are_words(list(value)):
        return False
    return all([is_own(value[word]) for word in value])


def is_own(value):
    """Whether any value tells what an own word of a function is."""
    if isinstance(value, str):
        return value in ("plain", "given")
    if not is_tuple_of(value, 2):
        return False
    length, ranges = value
    if not is_integer(length) or not 1 <= length <= MAX_SIZE:
        return False
    return are_ranges(ranges, length)


def are_ranges(value, length):
    """Whether any value is a tuple of ranges of cells, ascending and apart from each other."""
    if not isinstance(value, tuple):
        return False
    least = 0
    for pair in value:
        if not is_tuple_of(pair, 2) or not is_integer(pair[0]) or not is_integer(pair[1]):
            return False
        first, behind = pair
        if not least <= first < behind <= length:
            return False
        # The next range may not touch this one.
        least = behind + 1
    return True


def kept_function(functions, name):
    """A function as a program keeps it; InvalidStatement if its body is wrong."""
    parent, names, body = functions[name]
    if not is_list(body):
        raise InvalidStatement((name, ()))
    kept = kept_block(Sight(functions, name), Standing(1, False, {}), body, ())
    return (parent, {word: copied(names[word]) for word in sorted(set(names))}, kept)


def kept_block(sight, standing, block, path):
    """A block as a program keeps it; the path leads to it, without an index in it."""
    kept = []
    for at, value in enumerate(block):
        if not is_right(sight, standing, value):
            raise InvalidStatement((sight.function, (*path, at)))
        kept.append(kept_statement(sight, standing, value, (*path, at)))
    return tuple(kept)


def kept_statement(sight, standing, value, path):
    """A statement that is right itself, as a program keeps it."""
    word = value[0]
    if word == "either":
        return ("either", *kept_parts(sight, standing.inner(), value[1:], path))
    if word == "try":
        return kept_try(sight, standing.inner(), value, path)
    if word in LOOPS:
        inner = standing.looping() if word != "count" else standing.counting(value[1], value[2], value[3])
        return (*value[:-1], *kept_parts(sight, inner, value[-1:], path))
    return copied(value)


def kept_parts(sight, standing, blocks, path):
    """The blocks of a statement as a program keeps them; the path is the one of the statement."""
    return [kept_block(sight, standing, block, (*path, part)) for part, block in enumerate(blocks)]


def kept_try(sight, standing, value, path):
    """A try that is right itself, as a program keeps it; the standing is the one of its blocks."""
    body, handlers, last = value[1:]
    blocks = [body, *[block for _, block in handlers], last]
    kept = kept_parts(sight, standing, blocks, path)
    kept_handlers = []
    for at, handler in enumerate(handlers):
        kept_handlers.append((tuple(sorted(set(handler[0]))), kept[at + 1]))
    return ("try", kept[0], tuple(kept_handlers), kept[-1])
