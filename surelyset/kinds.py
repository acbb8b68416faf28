"""Kinds of values: integers, words, lists, and copies of any value."""

from surelyset.limits import MAX_SIZE

LETTERS = "abcdefghijklmnopqrstuvwxyz"
MAX_LETTERS = 8


def is_integer(value):
    """Whether any value is an integer; bools are none."""
    return isinstance(value, int) and not isinstance(value, bool)


def is_sized(value):
    """Whether any value is an integer of the size that programs take."""
    return is_integer(value) and -MAX_SIZE <= value <= MAX_SIZE


def has_word_form(value):
    """Whether any value is a word."""
    if not isinstance(value, str) or not 1 <= len(value) <= MAX_LETTERS:
        return False
    return all([letter in LETTERS for letter in value])


def is_outcome(value):
    """Whether any value is an outcome that a function may have."""
    if not isinstance(value, str):
        return False
    return value == "done" or (value.startswith("fail ") and has_word_form(value[len("fail "):]))


def is_list(value):
    """Whether any value may be passed as a list: tuples may be, too."""
    return isinstance(value, (list, tuple))


def is_tuple_of(value, many):
    """Whether any value is a tuple with so many items."""
    return isinstance(value, tuple) and len(value) == many


def copied(value):
    """A copy of any value, with copies of the tuples, lists and dicts at all depths."""
    # No recursion: what a text tells may be nested deeper than Python calls may be.
    nodes = [value]
    starts = []
    at = 0
    while at < len(nodes):
        starts.append(len(nodes))
        nodes.extend(items_of(nodes[at]))
        at += 1
    made = list(nodes)
    # Items stand behind what holds them, so from the last node on all items are made before.
    for k in reversed(range(len(nodes))):
        node = nodes[k]
        if isinstance(node, (list, tuple, dict)):
            made[k] = rebuilt(node, made[starts[k]:starts[k] + len(node)])
    return made[0]


def items_of(value):
    """What a list, a tuple or a dict holds, as a list; nothing for other values."""
    if isinstance(value, dict):
        return list(value.values())
    if isinstance(value, (list, tuple)):
        return list(value)
    return []


def rebuilt(value, items):
    """A list, tuple or dict like the value, with these items in place of its own ones."""
    if isinstance(value, dict):
        return {key: item for key, item in zip(list(value), items)}
    if isinstance(value, tuple):
        return tuple(items)
    return list(items)
