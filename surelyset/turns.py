"""Counts as turns: rounds in which a few cells are in use, one by one, and all others, many at once.

A round is of the kind 0 if it uses none of the cells; the other kinds are single values of the counter.
"""


def values_of(outline, places):
    """A dict from the spots of counts to the values, ascending, with which they come to one of the places.

    Only counts that have such values are in it.
    """
    found = {}
    for node in outline.nodes:
        if node.target is not None and len(node.row) == 3 and node.has_counter():
            count = node.counts[node.rank()]
            for value in place_values(node, count, places):
                found.setdefault(count.spot, []).append(value)
    return {spot: sorted(set(found[spot])) for spot in found}


def place_values(node, count, places):
    """The values of the counter with which a statement with a cell comes to one of the places."""
    _, _, low, high, _ = count.row
    more = node.row[2][1]
    values = [place[2] - more for place in places if place[:2] == node.target]
    return [value for value in values if low <= value < high]


def turns_of(low, high, values):
    """The turns of a count, or of its rounds from low to high - 1, in order: tuples (kind, rounds).

    The values, those of the kinds from 1 on, may be those of further rounds, too.
    """
    turns = []
    at = low
    for before, value in enumerate(values):
        if at <= value < high:
            if at < value:
                turns.append((0, value - at))
            turns.append((before + 1, 1))
            at = value + 1
    if at < high:
        turns.append((0, high - at))
    return turns
