"""Ways: how runs come to spots with names in given states, with the least steps."""

from surelyset.errors import InvalidStates, OutOfRange, UnknownSpot
from surelyset.guides import Guide, capped
from surelyset.kinds import is_integer
from surelyset.marks import STATES, UNSET, code_of, digits_of
from surelyset.outlines import Outline
from surelyset.places import array_length, places_of
from surelyset.tours import Tour
from surelyset.trails import Trail


def way(program, spot, wanted, *names):
    """A way with the least steps to the spot with the names in these states, None if there is none."""
    tour, found = found_at(program, spot, wanted, names)
    return way_of(tour, found)


def least_steps(program, spot, wanted, *names):
    """The steps of such a way, None if there is none."""
    _, found = found_at(program, spot, wanted, names)
    return None if found is None else capped(found[0])


def led(program, spot, value, *names):
    """The tuple (states, steps, counters) to which any value leads that is a way to the spot, otherwise None."""
    outline, places = asked(program, spot, names)
    studied = sorted(set(places))
    guide = Guide(outline, studied)
    found = guide.led(spot, value)
    if found is None:
        return None
    state, steps = found
    digits = digits_of(state, len(studied))
    states = tuple([STATES[digits[studied.index(place)]] for place in places])
    return states, steps, {counter: guide.counters[counter] for counter in sorted(set(guide.counters))}


def fault_way(program, spot, cell=None):
    """A way with the least steps to a read or look that reads what is unset, None if there is none.

    For a look the cell is the one that it reads.
    """
    statement = program.statement(spot)
    if statement is None or statement[0] not in ("read", "look"):
        raise UnknownSpot(spot)
    outline = Outline(program.functions)
    node = outline.node_at(spot)
    if statement[0] == "look":
        if not is_integer(cell) or not 0 <= cell < array_length(outline, spot[0], statement[1]):
            raise OutOfRange(cell)
        place = (*node.target, cell)
    else:
        if cell is not None:
            raise OutOfRange(cell)
        place = node.target
    tour = Tour(outline, [place])
    return way_of(tour, tour.found(spot[0], reading_table(tour, node, cell), UNSET))


def reading_table(tour, node, cell):
    """The table of a tour for runs that come to a read, or to a look that reads this cell."""
    if node.word == "read" or not node.has_counter():
        return tour.table_at(node.spot) if node.word == "read" or node.row[2] == cell else {}
    rank = node.rank()
    values = tour.effects.marked.get(node.counts[rank].spot, [])
    value = cell - node.row[2][1]
    if value not in values:
        return {}
    return tour.table_of(tour.tolls.chosen(tour.reach.done_at(node.spot), rank, 1 + values.index(value)))


def asked(program, spot, names):
    """The outline of a program and the places of the names at a spot; the error that is due if these are none."""
    program.statement(spot)
    outline = Outline(program.functions)
    return outline, places_of(outline, spot[0], names)


def found_at(program, spot, wanted, names):
    """A tour, and what it found for the names in these states at the spot."""
    outline, places = asked(program, spot, names)
    if not are_states(wanted, len(names)):
        raise InvalidStates(wanted)
    table = {}
    for place, state in zip(places, wanted):
        if table.setdefault(place, state) != state:
            # One name is not in two states at once.
            return None, None
    studied = sorted(set(places))
    tour = Tour(outline, studied)
    code = code_of([STATES.index(table[place]) for place in studied])
    return tour, tour.found(spot[0], tour.table_at(spot), code)


def are_states(value, many):
    """Whether any value is a tuple of so many states of names."""
    if not isinstance(value, tuple) or len(value) != many:
        return False
    return all([isinstance(state, str) and state in ("set", "unset") for state in value])


def way_of(tour, found):
    """The way that a tour found, None if it found none."""
    if found is None:
        return None
    _, key, trace = found
    trail = Trail(tour)
    return trail.way(key, trace)
