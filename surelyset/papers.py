"""Papers: tables that show with which states runs may come to spots."""

from surelyset.diagrams import Diagrams
from surelyset.errors import InvalidPaper, InvalidPlaces
from surelyset.kinds import is_integer, is_list
from surelyset.marks import ENDS, STATES, told_rows
from surelyset.outlines import Outline
from surelyset.places import MOST_PLACES
from surelyset.studies import Study
from surelyset.tables import Table


def paper(program, places):
    """The least closed table for these places."""
    outline = outline_of(program, places)
    many = len(places)
    study = Study(outline, Diagrams(), list(places))
    found = {}
    for name in sorted(set(study.begins)):
        ends = study.ends[name]
        told = {outcome: told_rows(ends[outcome], many, ENDS) for outcome in sorted(set(ends))}
        found[name] = (told_rows(study.begins[name], many, STATES), told)
    return found


def is_paper(program, places, value):
    """Whether any value is a closed table for these places."""
    table = Table(outline_of(program, places), list(places), value)
    return table.is_closed()


def shown(program, places, value, spot):
    """The ascending tuple of the states that a closed table lets at the spot."""
    table = Table(outline_of(program, places), list(places), value)
    if not table.is_closed():
        raise InvalidPaper(value)
    # Raises the error for what is no spot of the program.
    program.statement(spot)
    return told_rows(table.states_at(spot), len(places), STATES)


def outline_of(program, places):
    """The outline of the program; InvalidPlaces for any value that is no list of places as papers take them."""
    outline = Outline(program.functions)
    if not is_list(places) or not 1 <= len(places) <= MOST_PLACES:
        raise InvalidPlaces(places)
    if not all([is_place(outline, place) for place in places]) or len(set(places)) < len(places):
        raise InvalidPlaces(places)
    for place in places:
        for other in places:
            if place[0] not in outline.lines[other[0]] and other[0] not in outline.lines[place[0]]:
                raise InvalidPlaces(places)
    return outline


def is_place(outline, value):
    """Whether any value is a place of the program."""
    if not isinstance(value, tuple) or len(value) not in (2, 3):
        return False
    name, word = value[:2]
    if not isinstance(name, str) or name not in outline.owns or not isinstance(word, str):
        return False
    own = outline.owns[name].get(word)
    if len(value) == 2:
        return isinstance(own, str)
    return isinstance(own, tuple) and is_integer(value[2]) and 0 <= value[2] < own[0]
