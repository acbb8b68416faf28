"""Initial values: the fewest that mend a program as far as they can."""

from surelyset.desks import Desk
from surelyset.marks import KEPT
from surelyset.programs import Program
from surelyset.states import faults
from surelyset.studies import Study
from surelyset.verdicts import joined_ranges, stretches_of, window_of


def needed(program):
    """A dict from functions to dicts from own names to True, or to the ranges of cells, that are needed."""
    desk = Desk(program.functions)
    found = {name: {} for name in program.names}
    for word, target in desk.outline.read_targets():
        owner, own = target
        nodes = [node for node in desk.outline.nodes if node.word == word and node.target == target]
        told = needed_cells(desk, nodes, target) if word == "look" else is_name_needed(desk, nodes, target)
        if told:
            found[owner][own] = told
    return {name: {own: found[name][own] for own in sorted(set(found[name]))} for name in found if found[name]}


def is_name_needed(desk, reads, target):
    """Whether some of these reads comes with the name neither given nor set nor dropped in its frame."""
    study = Study(desk.outline, desk.diagrams, [target], is_fresh=True)
    return any([is_fresh(study.states_at(node.spot)) for node in reads])


def is_fresh(mask):
    """Whether none is among the states of a mask: these are of a name that was neither set nor dropped."""
    return mask & KEPT != 0


def needed_cells(desk, looks, target):
    """The ranges of the cells of an array that come neither given nor put nor cut to some of these looks."""
    needs = {}
    rows = []
    windows = [window_of(node) for node in looks]
    for first, behind, kind in stretches_of(desk.outline, target):
        if kind not in needs:
            is_looked_at = any([low <= first < high for low, high in windows])
            _, is_given = kind
            needs[kind] = is_looked_at and not is_given and is_cell_needed(desk, looks, (*target, first))
        rows.append((first, behind, True if needs[kind] else None))
    return tuple([(first, behind) for first, behind, _ in joined_ranges(rows)])


def is_cell_needed(desk, looks, place):
    """Whether some of these looks looks at the cell when it was neither given nor put nor cut in its frame."""
    study = Study(desk.outline, desk.diagrams, [place], is_fresh=True)
    return any([is_fresh(study.states_of_look(node)) for node in looks])


def initial(program):
    """The program with all given that is needed."""
    functions = program.functions
    more = needed(program)
    for name in more:
        parent, names, body = functions[name]
        given = {own: with_given(names[own], more[name][own]) for own in more[name]}
        functions[name] = (parent, {**names, **given}, body)
    return Program(functions)


def with_given(own, told):
    """A name or an array with what is needed of it given, too."""
    if told is True:
        return "given"
    length, ranges = own
    rows = [(first, behind, True) for first, behind in sorted(set([*ranges, *told]))]
    return length, tuple([(first, behind) for first, behind, _ in joined_ranges(rows)])


def hopeless(program):
    """The faults that are left in the program with all given that is needed."""
    return faults(initial(program))
