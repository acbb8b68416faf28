"""Tables of begins and ends: whether they are closed, and what they let."""

from surelyset.diagrams import Diagrams
from surelyset.effects import Effects
from surelyset.holdings import Holding
from surelyset.kinds import is_outcome, is_tuple_of
from surelyset.marks import ENDS, STATES, code_of, mapped
from surelyset.reaches import Reach
from surelyset.studies import ends_of_effect


class Table:
    """Any value as a table for places in an outline; it has a form if it is one, closed or not."""

    def __init__(self, outline, places, value):
        self.outline = outline
        self.many = len(places)
        self.holding = Holding(outline, places)
        self.begins = {}
        self.ends = {name: {} for name in outline.bodies}
        self.has_form = isinstance(value, dict) and all([self.takes(name, value[name]) for name in value])
        self.diagrams = Diagrams()
        self.effects = Effects(outline, self.diagrams, places, self.ends)
        self.reach = Reach(outline, self.effects)

    def takes(self, name, told):
        """Whether this is an entry of a table; if so, it is taken in, as masks."""
        if not isinstance(name, str) or name not in self.outline.bodies or not is_tuple_of(told, 2):
            return False
        begins, ends = told
        begin_words = [STATES[1:] if carried else STATES[:1] for carried in self.holding.carried[name]]
        if not are_rows(begins, begin_words) or not isinstance(ends, dict):
            return False
        self.begins[name] = mask_of(begins, STATES)
        end_words = [ENDS if outer else ENDS[:1] for outer in self.holding.outer[name]]
        for outcome in ends:
            if not is_outcome(outcome) or not are_rows(ends[outcome], end_words):
                return False
            self.ends[name][outcome] = mask_of(ends[outcome], ENDS)
        return True

    def is_closed(self):
        """Whether the value is a closed table."""
        if not self.has_form or not self.has_begin("main", 1 << self.holding.starts["main"]):
            return False
        return all([self.is_closed_at(name) for name in self.begins])

    def has_begin(self, name, states):
        """Whether the function is in the table with all these states among its begins."""
        return name in self.begins and states | self.begins[name] == self.begins[name]

    def is_closed_at(self, name):
        """Whether what runs of this function come to is in the table."""
        if self.begins[name] == 0:
            return True
        body = self.effects.of_part(self.outline.bodies[name])
        told = ends_of_effect(body, self.holding.outer[name])
        for outcome in told:
            more = self.ends[name].get(outcome, 0)
            if told[outcome] | more != more:
                return False
        for node in self.outline.calls[name]:
            called = node.row[1]
            states = mapped(self.states_at(node.spot), self.holding.outer[called], self.holding.starts[called])
            if states != 0 and not self.has_begin(called, states):
                return False
        return True

    def states_at(self, spot):
        """The mask of the states that the table lets at a spot."""
        begins = self.begins.get(spot[0], 0)
        return 0 if begins == 0 else self.diagrams.followed(begins, self.diagrams.flat(self.reach.done_at(spot)))


def are_rows(value, words):
    """Whether any value is an ascending tuple of tuples with one of the words for each place."""
    if not isinstance(value, tuple) or not all([is_row(row, words) for row in value]):
        return False
    return all([one < other for one, other in zip(value, value[1:])])


def is_row(value, words):
    """Whether any value is a tuple with one of the words for each place."""
    if not is_tuple_of(value, len(words)):
        return False
    return all([isinstance(word, str) and word in may_be for word, may_be in zip(value, words)])


def mask_of(rows, words):
    """The mask of the codes of tuples of words."""
    mask = 0
    for row in rows:
        mask |= 1 << code_of([words.index(word) for word in row])
    return mask
