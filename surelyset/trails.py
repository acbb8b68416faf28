"""Ways as the document tells them, made of what a tour found."""

from surelyset.traces import NOTHING


class Trail:
    """Makes a way: collects the plans that it needs, and numbers them by their steps."""

    def __init__(self, tour):
        self.tour = tour
        self.traces = tour.traces
        self.numbers = {}
        self.rows = {NOTHING: ()}

    def way(self, key, trace):
        """The way to a spot with this trace in a function that began with this key of begins."""
        traces = [trace]
        while self.tour.begins[key][1] is not None:
            _, caller, before = self.tour.begins[key]
            traces.append(before)
            key = caller
        traces = traces[::-1]
        plans = self.numbered_plans(traces)
        rows = [self.open_row(one, [("enter",)]) for one in traces[:-1]]
        return tuple(plans), (*rows, self.open_row(traces[-1], []))

    def plan(self, call):
        """The tuple (steps, trace) of the plan that a tag of a call names."""
        _, name, outcome, code = call
        return self.tour.plans[name][outcome][code]

    def numbered_plans(self, traces):
        """The plans for the calls in these traces, those with fewer steps first, which are numbered so."""
        calls = self.calls_in(traces)
        order = sorted(set([(self.plan(call)[0], call) for call in calls]))
        for at, (_, call) in enumerate(order):
            self.numbers[call] = at
        return [(call[1], self.row_of(self.plan(call)[1])) for _, call in order]

    def calls_in(self, traces):
        """A dict from the tags of the calls in these traces, and in the plans of those calls, to True."""
        calls = {}
        seen = {trace: True for trace in traces}
        waiting = list(seen)
        while waiting:
            trace = waiting.pop()
            for tag, inner, _ in self.traces.items_of(trace):
                found = inner
                if tag[0] == "call" and tag not in calls:
                    calls[tag] = True
                    found = self.plan(tag)[1]
                if found not in seen:
                    seen[found] = True
                    waiting.append(found)
        return calls

    def row_of(self, trace):
        """The row that a trace tells."""
        if trace not in self.rows:
            self.rows[trace] = tuple([self.entry(tag, inner) for tag, inner, _ in self.traces.items_of(trace)])
        return self.rows[trace]

    def entry(self, tag, inner):
        """The entry that an item tells."""
        if tag[0] == "either":
            return ("either", tag[1], self.row_of(inner))
        if tag[0] == "loop":
            return ("loop", tuple(self.pieces(inner)))
        if tag[0] == "try":
            return ("try", *self.try_rows(inner))
        return ("call", self.numbers[tag])

    def pieces(self, trace):
        """The pieces of a loop with these rounds."""
        return [(times, self.row_of(inner)) for _, inner, times in self.traces.items_of(trace)]

    def try_rows(self, trace):
        """The rows of a try with these parts; None for a part that is not among them."""
        rows = [None, None, None]
        for tag, inner, _ in self.traces.items_of(trace):
            rows[tag[1]] = self.row_of(inner)
        return rows

    def open_row(self, trace, last):
        """The row of a run that stops within it; the last entries stand where it stops."""
        entries = last
        for tag, inner, _ in self.traces.items_of(trace)[::-1]:
            # Behind an item that is open all stands in it.
            if tag[0] == "open":
                entries = [self.open_entry(tag, inner, tuple(entries))]
            else:
                entries = [self.entry(tag, inner), *entries]
        return tuple(entries)

    def open_entry(self, tag, inner, row):
        """The entry of a statement in which a run stops, with the row of its part in which it does."""
        if tag[1] == "either":
            return ("either", tag[2], row)
        if tag[1] == "loop":
            return ("loop", (*self.pieces(inner), (1, row)))
        rows = self.try_rows(inner)
        rows[tag[2]] = row
        return ("try", *rows)
