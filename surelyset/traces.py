"""Traces: what parts of runs are made of, in order, as numbers.

A trace is a sequence of items, tuples (tag, inner, times): the tag tells what it is, the inner trace what is in it,
the times how often it stands here.
"""

NOTHING = 0
ROUND = ("round",)


class Traces:
    """The traces that were made; equal ones have equal numbers."""

    def __init__(self):
        # For each trace the one without its last item, and this item.
        self.befores = [NOTHING]
        self.lasts = [None]
        self.numbers = {}

    def with_item(self, trace, item):
        """The trace with an item more; rounds that are alike are one item."""
        last = self.lasts[trace]
        if last is not None and last[0] == ROUND and last[:2] == item[:2]:
            return self.numbered(self.befores[trace], (*last[:2], last[2] + item[2]))
        return self.numbered(trace, item)

    def numbered(self, before, last):
        """The trace with this last item behind another trace."""
        key = (before, last)
        if key not in self.numbers:
            self.numbers[key] = len(self.lasts)
            self.befores.append(before)
            self.lasts.append(last)
        return self.numbers[key]

    def items_of(self, trace):
        """The items of a trace, in order."""
        found = []
        while trace != NOTHING:
            found.append(self.lasts[trace])
            trace = self.befores[trace]
        return found[::-1]

    def joined(self, one, other):
        """Both traces, one behind the other."""
        for item in self.items_of(other):
            one = self.with_item(one, item)
        return one

    def alone(self, tag, inner):
        """The trace of one item."""
        return self.with_item(NOTHING, (tag, inner, 1))

    def often(self, trace, times):
        """A trace of one round, so many times."""
        tag, inner, _ = self.lasts[trace]
        return self.with_item(NOTHING, (tag, inner, times))
