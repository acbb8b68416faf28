"""The blocks within statements, and the spots of a program."""

LOOPS = ("while", "ever", "count")
CELL_WORDS = ("put", "cut", "look")


def blocks_of(statement):
    """The blocks of a statement as a program keeps it, in the order of their parts in paths."""
    word = statement[0]
    if word == "either":
        return list(statement[1:])
    if word in LOOPS:
        return [statement[-1]]
    if word != "try":
        return []
    _, body, handlers, last = statement
    parts = [body]
    for _, block in handlers:
        parts.append(block)
    if last:
        parts.append(last)
    return parts


def with_blocks(statement, blocks):
    """The statement with other blocks, as many as it has, in the order of blocks_of."""
    word = statement[0]
    if word == "either":
        return ("either", *blocks)
    if word in LOOPS:
        return (*statement[:-1], blocks[0])
    if word != "try":
        return statement
    _, _, handlers, last = statement
    inner = [(words, block) for (words, _), block in zip(handlers, blocks[1:])]
    return ("try", blocks[0], tuple(inner), blocks[-1] if last else last)


def handler_at(handlers, outcome):
    """The index of the handler that goes on behind a try's block with this outcome, None if there is none."""
    if not outcome.startswith("fail "):
        return None
    for at, (words, _) in enumerate(handlers):
        if not words or outcome[5:] in words:
            return at
    return None


def many_statements(block):
    """How many statements stand in a block, those within others counted."""
    return sum([1 + sum([many_statements(inner) for inner in blocks_of(statement)]) for statement in block])


def block_spots(function, block, path):
    """Tuples of a spot and the statement there, None at an end, of a block and of those within it.

    The path is that of the block: it leads to the block without the index in it.
    """
    found = []
    for at, statement in enumerate(block):
        found.append(((function, (*path, at)), statement))
        for part, inner in enumerate(blocks_of(statement)):
            found.extend(block_spots(function, inner, (*path, at, part)))
    found.append(((function, (*path, len(block))), None))
    return found


def spot_table(functions):
    """A dict from all spots, ascending, to the statements there, None at the ends of blocks."""
    found = {}
    for name in functions:
        for spot, statement in block_spots(name, functions[name][2], ()):
            found[spot] = statement
    return {spot: found[spot] for spot in sorted(set(found))}
