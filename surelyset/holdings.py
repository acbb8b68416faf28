"""What the functions of a program have of a few places, whose owners stand in one line."""

from surelyset.frames import is_given
from surelyset.marks import KEEP, SET, UNSET, code_of


class Holding:
    """By function: for which of the places it carries them, and for which their owner is around it; its start.

    The start is the code of the places that the function owns, at its beginning, with no digits for the others.
    If all is fresh it has none for those that are plain either: so "none" tells what was neither set nor dropped.
    """

    def __init__(self, outline, places, is_fresh=False):
        self.carried = {}
        self.outer = {}
        self.starts = {}
        for name in outline.bodies:
            line = outline.lines[name]
            self.carried[name] = [place[0] in line for place in places]
            self.outer[name] = [place[0] in line[1:] for place in places]
            digits = [start_digit(outline, name, place) for place in places]
            self.starts[name] = code_of([KEEP if is_fresh and digit == UNSET else digit for digit in digits])


def start_digit(outline, name, place):
    """The digit of a place at the beginning of a function, KEEP if it is not the function's own."""
    if place[0] != name:
        return KEEP
    word = place[1] if len(place) == 2 else place[1:]
    return SET if is_given(outline.owns[name], word) else UNSET
