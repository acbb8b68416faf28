"""How great a program without finally blocks is, counted without making it."""

from surelyset.endings import DONE, has_last


class Size:
    """Of a block, of a statement, or of several: how many statements, how many blocks deep, handlers of one try."""

    def __init__(self, many, levels, handlers):
        self.many = many
        self.levels = levels
        self.handlers = handlers


def joined(sizes):
    """The size of several blocks or statements together."""
    many = sum([size.many for size in sizes])
    levels = 0
    handlers = 0
    for size in sizes:
        levels = max(int(levels), int(size.levels))
        handlers = max(int(handlers), int(size.handlers))
    return Size(many, levels, handlers)


def within(size, handlers):
    """The size of a statement with these blocks, and with so many handlers."""
    return Size(size.many + 1, size.levels, max(int(size.handlers), int(handlers)))


def part_size(endings, part):
    """The size of a block, which is one deep itself."""
    inner = joined([node_size(endings, node) for node in part.nodes])
    return Size(inner.many, inner.levels + 1, inner.handlers)


def node_size(endings, node):
    """The size of a statement."""
    if node.word != "try":
        return within(joined([part_size(endings, part) for part in node.parts]), 0)
    handlers = endings.handlers_of(node)
    own = part_size(endings, node.parts[0])
    old = within(joined([own, *[part_size(endings, part) for _, part in handlers]]), len(handlers))
    if not has_last(node):
        return old
    # The old try, or the statements of its block, with a failure behind, in a block of a new try.
    first = Size(own.many + 1, own.levels, own.handlers)
    if handlers:
        first = Size(old.many + 1, old.levels + 1, old.handlers)
    outcomes = endings.ways_out(node)
    copies = []
    if outcomes:
        last = part_size(endings, node.parts[-1])
        copies = [Size(last.many + (0 if outcome == DONE else 1), last.levels, last.handlers) for outcome in outcomes]
    return within(joined([first, *copies]), len(outcomes))


def whole_size(endings):
    """The size of the whole program."""
    return joined([part_size(endings, endings.outline.bodies[name]) for name in endings.outline.bodies])
