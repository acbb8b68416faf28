"""The text of a program."""

from surelyset.blocks import CELL_WORDS, LOOPS


def text_of(functions):
    """The text of functions as a program keeps them."""
    lines = []
    for name in functions:
        parent, names, body = functions[name]
        lines.append(f"function {name}" if parent is None else f"function {name} in {parent}")
        lines.extend([name_line(word, names[word]) for word in names])
        lines.extend(block_lines(body))
    return "\n".join(lines)


def name_line(word, own):
    """The line of an own name or array."""
    if isinstance(own, str):
        return f"{own} {word}"
    length, ranges = own
    parts = [f" {first} {behind}" for first, behind in ranges]
    return f"array {word} {length}" + "".join(parts)


def block_lines(block):
    """The lines of the statements of a block."""
    lines = []
    for statement in block:
        lines.extend(statement_lines(statement))
    return lines


def statement_lines(statement):
    """The lines of a statement, with those of its blocks."""
    word = statement[0]
    if word == "either":
        return either_lines(statement)
    if word == "try":
        return try_lines(statement)
    if word in LOOPS:
        head = " ".join([str(part) for part in statement[:-1]])
        return [head, *block_lines(statement[-1]), "end"]
    if word in CELL_WORDS:
        return [f"{word} {statement[1]} {cell_text(statement[2])}"]
    return [" ".join(statement)]


def either_lines(statement):
    """The lines of an either."""
    lines = ["either", *block_lines(statement[1])]
    for block in statement[2:]:
        lines.append("or")
        lines.extend(block_lines(block))
    lines.append("end")
    return lines


def try_lines(statement):
    """The lines of a try."""
    body, handlers, last = statement[1:]
    lines = ["try", *block_lines(body)]
    for words, block in handlers:
        lines.append(" ".join(["on", *words]))
        lines.extend(block_lines(block))
    if last:
        lines.append("finally")
        lines.extend(block_lines(last))
    lines.append("end")
    return lines


def cell_text(cell):
    """The text of a cell, which is an integer or a tuple of a counter and an integer."""
    if not isinstance(cell, tuple):
        return str(cell)
    counter, more = cell
    if more == 0:
        return counter
    return f"{counter} + {more}" if more > 0 else f"{counter} - {-more}"
