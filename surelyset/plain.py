"""Programs without finally blocks that behave alike."""

from surelyset.blocks import LOOPS
from surelyset.endings import DONE, JUMPS, Endings, has_last
from surelyset.errors import TooMany
from surelyset.limits import MAX_DEPTH, MAX_STATEMENTS
from surelyset.programs import Program
from surelyset.sizes import whole_size
from surelyset.sprouts import Bed, Sprout, block_of, origins_of
from surelyset.statements import MOST_HANDLERS


def without_finally(program):
    """A tuple of a program without finally blocks and a dict from its spots to those from which they come."""
    functions = program.functions
    endings = Endings(functions)
    size = whole_size(endings)
    if size.handlers > MOST_HANDLERS:
        raise TooMany(MOST_HANDLERS)
    if size.many > MAX_STATEMENTS:
        raise TooMany(MAX_STATEMENTS)
    if size.levels > MAX_DEPTH:
        raise TooMany(MAX_DEPTH)
    made = {}
    origins = {}
    for name in functions:
        parent, names, _ = functions[name]
        bed = plain_bed(endings, endings.outline.bodies[name])
        made[name] = (parent, names, block_of(bed))
        for spot, origin in origins_of(name, bed, ()):
            origins[spot] = origin
    return Program(made), {spot: origins[spot] for spot in sorted(set(origins))}


def growth(program):
    """How many statements the program without finally blocks has, however many."""
    return whole_size(Endings(program.functions)).many


def plain_bed(endings, part):
    """A block without finally blocks in it."""
    return Bed([plain_sprout(endings, node) for node in part.nodes], part.end)


def plain_sprout(endings, node):
    """A statement without finally blocks."""
    if node.word != "try":
        return Sprout(node.row, node.spot, [plain_bed(endings, part) for part in node.parts])
    own = plain_bed(endings, node.parts[0])
    handlers = [(words, plain_bed(endings, part)) for words, part in endings.handlers_of(node)]
    if not has_last(node):
        return try_sprout(own, handlers, node.spot)
    own = without_jumps(endings, own, False)
    handlers = [(words, without_jumps(endings, bed, False)) for words, bed in handlers]
    word = ("fail", endings.codes[DONE])
    if handlers:
        first = Bed([try_sprout(own, handlers, None), Sprout(word, None, [])], None)
    else:
        first = Bed([*own.sprouts, Sprout(word, own.origin, [])], None)
    return try_sprout(first, last_handlers(endings, node), node.spot)


def try_sprout(own, handlers, origin):
    """A try of these blocks, without a finally block."""
    row = ("try", (), tuple([(words, ()) for words, _ in handlers]), ())
    return Sprout(row, origin, [own, *[bed for _, bed in handlers]])


def last_handlers(endings, node):
    """The handlers in place of the finally block of a try: tuples (words, bed)."""
    outcomes = endings.ways_out(node)
    if not outcomes:
        # What nobody comes to may be far too great to be made.
        return []
    last = plain_bed(endings, node.parts[-1])
    found = []
    for outcome in outcomes:
        word = endings.codes[outcome] if outcome in endings.codes else outcome[len("fail "):]
        if outcome == DONE:
            found.append(((word,), last))
        else:
            row = (outcome,) if outcome in JUMPS else ("fail", word)
            found.append(((word,), Bed([*last.sprouts, Sprout(row, last.origin, [])], None)))
    return found


def without_jumps(endings, bed, is_in_loop):
    """A block in which failures stand for what goes out of it: back, and leave and next if no loop in it is around."""
    sprouts = []
    for sprout in bed.sprouts:
        word = sprout.row[0]
        if word == "back" or (word in JUMPS and not is_in_loop):
            sprouts.append(Sprout(("fail", endings.codes[word]), sprout.origin, []))
        else:
            inner = [without_jumps(endings, one, is_in_loop or word in LOOPS) for one in sprout.beds]
            sprouts.append(Sprout(sprout.row, sprout.origin, inner))
    return Bed(sprouts, bed.origin)
