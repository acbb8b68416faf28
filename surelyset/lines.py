"""The forms of the lines of a text.

The line of a simple statement is told as this statement, other lines as tuples of their parts:
("function", name, parent or None), ("array", word, length, ranges), ("on", word, ..),
("count", counter, low, high), and all else as the tuple of its words.
"""

from surelyset.kinds import has_word_form

BARE = ("either", "while", "ever", "try", "leave", "next", "back", "or", "finally", "end")
NAMING = ("plain", "given", "set", "drop", "read", "fail", "call")
# int() takes no more than some thousand digits at once.
DIGITS_AT_ONCE = 60
BASE = 10 ** 60


def line_parts(line):
    """What a line tells, as a tuple, or None if it has not the form of a line."""
    parts = line.split(" ")
    word = parts[0]
    if word in BARE:
        return (word,) if len(parts) == 1 else None
    if word in NAMING:
        return tuple(parts) if len(parts) == 2 and has_word_form(parts[1]) else None
    if word not in READERS:
        return None
    reader = READERS[word]
    return reader(parts)


def function_parts(parts):
    """What the first line of a function tells, or None."""
    if len(parts) == 2 and has_word_form(parts[1]):
        return ("function", parts[1], None)
    if len(parts) == 4 and has_word_form(parts[1]) and parts[2] == "in" and has_word_form(parts[3]):
        return ("function", parts[1], parts[3])
    return None


def array_parts(parts):
    """What the line of an array tells, or None."""
    numbers = [integer_of(part) for part in parts[2:]]
    if len(numbers) % 2 == 0 or None in numbers or not has_word_form(parts[1]):
        return None
    ranges = [(numbers[at], numbers[at + 1]) for at in range(1, len(numbers), 2)]
    return ("array", parts[1], numbers[0], tuple(ranges))


def cell_parts(parts):
    """The statement that uses a cell, or None."""
    if len(parts) not in (3, 5) or not has_word_form(parts[1]):
        return None
    cell = integer_of(parts[2]) if len(parts) == 3 else None
    if cell is None:
        cell = counted_cell(parts[2:])
    return None if cell is None else (parts[0], parts[1], cell)


def counted_cell(parts):
    """A cell by a counter, told by one part or by three, or None."""
    if not has_word_form(parts[0]):
        return None
    if len(parts) == 1:
        return (parts[0], 0)
    more = integer_of(parts[2])
    if more is None or more < 1 or parts[1] not in ("+", "-"):
        return None
    return (parts[0], more if parts[1] == "+" else -more)


def count_parts(parts):
    """What the first line of a count tells, or None."""
    numbers = [integer_of(part) for part in parts[2:]]
    if len(numbers) != 2 or None in numbers or not has_word_form(parts[1]):
        return None
    return ("count", parts[1], numbers[0], numbers[1])


def on_parts(parts):
    """What the line ahead of a handler tells, or None."""
    words = parts[1:]
    if not all([has_word_form(word) for word in words]) or words != sorted(set(words)):
        return None
    return tuple(parts)


READERS = {
    "function": function_parts, "array": array_parts, "count": count_parts, "on": on_parts,
    "put": cell_parts, "cut": cell_parts, "look": cell_parts,
}


def integer_of(text):
    """The integer that a text tells, of any length, or None."""
    is_negative = text.startswith("-")
    digits = text[1:] if is_negative else text
    if not digits.isascii() or not digits.isdigit():
        return None
    if digits[0] == "0" and text != "0":
        return None
    return -number_of(digits) if is_negative else number_of(digits)


def number_of(digits):
    """The number that decimal digits tell."""
    pieces = range(len(digits), 0, -DIGITS_AT_ONCE)
    parts = [int(digits[max(0, behind - DIGITS_AT_ONCE):behind]) for behind in pieces]
    base = BASE
    # The lowest part stands first; neighbours are joined until one is left.
    while len(parts) > 1:
        parts.append(0)
        parts = [parts[at] + parts[at + 1] * base for at in range(0, len(parts) - 1, 2)]
        base = base * base
    return parts[0]
