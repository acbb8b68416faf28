"""Desks, which study a program for one question after the other."""

from surelyset.diagrams import Diagrams
from surelyset.marks import ENDS, STATES, codes_of, digits_of
from surelyset.outlines import Outline
from surelyset.places import places_of
from surelyset.studies import Study


MOST_STUDIES = 100


class Desk:
    """What was found out about a program so far."""

    def __init__(self, functions):
        self.outline = Outline(functions)
        self.diagrams = Diagrams()
        self.studies = {}

    def study(self, places):
        """The study of places, perhaps the same one several times."""
        key = tuple(sorted(set(places)))
        if key not in self.studies:
            if len(self.studies) == MOST_STUDIES:
                # There are too many triples of cells to keep what was found out about all of them.
                self.diagrams = Diagrams()
                self.studies = {}
            self.studies[key] = Study(self.outline, self.diagrams, key)
        return self.studies[key]

    def told_states(self, spot, names):
        """The states of names with which runs come to a spot of the program."""
        places = places_of(self.outline, spot[0], names)
        study = self.study(places)
        return told(study.states_at(spot), study.places, places, STATES)

    def told_ends(self, function, parent, names):
        """The ends of a function of the program for names that its parent sees."""
        places = places_of(self.outline, parent, names)
        study = self.study(places)
        found = study.ends[function]
        return {outcome: told(found[outcome], study.places, places, ENDS) for outcome in sorted(set(found))}


def told(mask, studied, places, words):
    """The codes of a mask as an ascending tuple of tuples, with the word for the digit of each of the places."""
    rows = []
    for code in codes_of(mask):
        digits = digits_of(code, len(studied))
        rows.append(tuple([words[digits[studied.index(place)]] for place in places]))
    return tuple(sorted(set(rows)))
