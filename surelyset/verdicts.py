"""Verdicts of the cells of arrays, without going through them one by one.

Stretches of an array are tuples (first, behind, kind): runs treat all cells of a stretch, and of the stretches
of the same kind, alike.
"""

from surelyset.marks import UNSET, codes_of
from surelyset.studies import Study

# For one cell, so many rounds between the ends of a count and a round that uses the cell do what more of them do.
MANY_ROUNDS = 2


def verdict_of(mask):
    """The verdict for one place by the mask of its states."""
    if mask == 0:
        return "never"
    return "fault" if UNSET in codes_of(mask) else "sure"


def window_of(node):
    """The cells that a statement uses in some rounds: a tuple (first, behind)."""
    if not node.has_counter():
        return node.row[2], node.row[2] + 1
    _, _, low, high, _ = node.counts[node.rank()].row
    more = node.row[2][1]
    return low + more, high + more


def borders_of(outline, target):
    """The cells of an array (owner, array) from which on runs may do otherwise, ascending; 0 is among them."""
    found = {0: True}
    length = outline.owns[target[0]][target[1]][0]
    for node in outline.nodes:
        if node.target == target:
            first, behind = window_of(node)
            for rounds in range(MANY_ROUNDS + 1 if node.has_counter() else 1):
                found[first + rounds] = True
                found[behind - rounds] = True
    return [cell for cell in sorted(set(found)) if 0 <= cell < length]


def stretches_of(outline, target):
    """The stretches that cover an array (owner, array), ascending."""
    length, given = outline.owns[target[0]][target[1]]
    borders = borders_of(outline, target)
    firsts = {first: True for first, _ in given}
    behinds = {behind: True for _, behind in given}
    ends = sorted(set([*borders, *list(firsts), *list(behinds), length]))
    is_border = {cell: True for cell in borders}
    found = []
    at = 0
    is_given = False
    for first, behind in zip(ends, ends[1:]):
        at += 1 if first in is_border else 0
        is_given = first in firsts or (is_given and first not in behinds)
        found.append((first, behind, (at, is_given)))
    return found


def joined_ranges(rows):
    """Tuples (first, behind, told), ascending, as few as possible, without those of which None is told."""
    found = []
    for first, behind, told in rows:
        if found and found[-1][1] == first and found[-1][2] == told:
            first = found.pop()[0]
        if told is not None:
            found.append((first, behind, told))
    return found


def spot_ranges(desk, spot, target):
    """Tuples (first, behind, verdict) that cover an array: the verdicts of its cells at a spot."""
    verdicts = {}
    rows = []
    for first, behind, kind in stretches_of(desk.outline, target):
        if kind not in verdicts:
            study = Study(desk.outline, desk.diagrams, [(*target, first)])
            verdicts[kind] = verdict_of(study.states_at(spot))
        rows.append((first, behind, verdicts[kind]))
    return joined_ranges(rows)


def look_ranges(desk, looks, target):
    """A list for looks at an array: for each tuples (first, behind, verdict) for the cells that runs look at."""
    windows = [window_of(node) for node in looks]
    verdicts = {}
    rows = [[] for _ in looks]
    for first, behind, kind in stretches_of(desk.outline, target):
        if kind not in verdicts:
            verdicts[kind] = look_verdicts(desk, looks, windows, (*target, first))
        for row, verdict in zip(rows, verdicts[kind]):
            row.append((first, behind, verdict))
    return [joined_ranges(row) for row in rows]


def look_verdicts(desk, looks, windows, place):
    """A list for looks with these windows: for each the verdict of a cell, None if it does not look at it."""
    if not any([first <= place[2] < behind for first, behind in windows]):
        return [None] * len(looks)
    study = Study(desk.outline, desk.diagrams, [place])
    masks = [study.states_of_look(node) for node in looks]
    return [None if mask == 0 else verdict_of(mask) for mask in masks]
