"""A second reading of programs without finally blocks: step by step, as the document tells it, on trees of dicts."""

import itertools

from tests.support import kept

LETTERS = "abcdefghijklmnopqrstuvwxyz"
LOOPS = ("while", "ever", "count")


class TooGreat(Exception):
    """The program becomes too great for the second reading."""


def tree(function, block, path):
    """A block: a dict of its statements and of the spot from which its end comes."""
    rows = []
    for at, statement in enumerate(block):
        here = (*path, at)
        row = {"row": statement, "from": (function, here)}
        blocks = {"either": statement[1:], "try": ()}.get(statement[0], statement[-1:] if statement[0] in LOOPS else ())
        row["blocks"] = [tree(function, inner, (*here, part)) for part, inner in enumerate(blocks)]
        if statement[0] == "try":
            _, inner, handlers, last = statement
            row["blocks"] = [tree(function, inner, (*here, 0))]
            row["handlers"] = [(words, tree(function, handler, (*here, 1 + at))) for at, (words, handler) in enumerate(handlers)]
            row["last"] = tree(function, last, (*here, 1 + len(handlers))) if last else None
        rows.append(row)
    return {"rows": rows, "end": (function, (*path, len(block)))}


def blocks_in(row):
    """The blocks of a statement, in order."""
    found = list(row["blocks"])
    if row["row"][0] == "try":
        found += [handler for _, handler in row["handlers"]] + [row["last"]] * bool(row["last"])
    return found


def rows_in(block):
    """All statements in a block, in reading order."""
    for row in block["rows"]:
        yield row
        for inner in blocks_in(row):
            yield from rows_in(inner)


def copied(block):
    rows = []
    for row in block["rows"]:
        more = {"row": row["row"], "from": row["from"], "blocks": [copied(inner) for inner in row["blocks"]]}
        if row["row"][0] == "try":
            more["handlers"] = [(words, copied(handler)) for words, handler in row["handlers"]]
            more["last"] = row["last"] and copied(row["last"])
        rows.append(more)
    return {"rows": rows, "end": block["end"]}


class Without:
    """The program, as functions, without finally blocks; its spots, and how great it is."""

    def __init__(self, functions, most=4000):
        functions = kept(functions)
        self.trees = {name: tree(name, functions[name][2], ()) for name in functions}
        self.calls = {name: set() for name in functions}
        while True:
            told = {name: self.call_outcomes(name) for name in functions}
            if told == self.calls:
                break
            self.calls = told
        fails = {row["row"][1] for row in self.rows() if row["row"][0] == "fail"}
        named = fails | {word for row in self.tries() for words, _ in row["handlers"] for word in words}
        free = (("".join(word) for many in (1, 2, 3) for word in itertools.product(LETTERS, repeat=many)))
        self.codes = dict(zip(("done", "leave", "next", "back"), (word for word in free if word not in named)))
        for row in self.tries():
            row["handlers"] = [(words or tuple(sorted(fails)), handler) for words, handler in row["handlers"] if words or fails]
        while True:
            row = next((row for row in self.tries() if row["last"] and not self.has_inner(row)), None)
            if row is None:
                break
            self.change(row)
            if sum(1 for _ in self.rows()) > most:
                raise TooGreat
        self.functions = {name: (*functions[name][:2], self.as_block(self.trees[name])) for name in functions}
        self.spots = {}
        for name in functions:
            self.note(name, self.trees[name], ())
        self.many = sum(1 for _ in self.rows())
        self.handlers = max([len(row["handlers"]) for row in self.tries()], default=0)
        self.depth = max(map(self.depth_of, self.trees.values()))

    def rows(self):
        for name in sorted(self.trees):
            yield from rows_in(self.trees[name])

    def tries(self):
        return (row for row in self.rows() if row["row"][0] == "try")

    def has_inner(self, row):
        return any(one["row"][0] == "try" and one["last"] for inner in blocks_in(row) for one in rows_in(inner))

    def call_outcomes(self, name):
        return {"done" if outcome == "back" else outcome for outcome in self.outcomes(self.trees[name])}

    def outcomes(self, block):
        found = {"done"}
        for row in block["rows"]:
            if "done" not in found:
                return found
            found = found - {"done"} | self.row_outcomes(row)
        return found

    def row_outcomes(self, row):
        head = row["row"][0]
        if head in ("leave", "next", "back", "fail"):
            return {" ".join(row["row"])}
        if head == "call":
            return self.calls[row["row"][1]]
        if head == "either":
            return set().union(*map(self.outcomes, row["blocks"]))
        if head == "try":
            found = self.without_last(row)
            if not row["last"]:
                return found
            last = self.outcomes(row["last"]) if found else set()
            return (found if "done" in last else set()) | (last - {"done"})
        if head not in LOOPS:
            return {"done"}
        if head == "count" and row["row"][2] >= row["row"][3]:
            return {"done"}
        found = self.outcomes(row["blocks"][0])
        ends = {"done"} if head == "while" or "leave" in found or (head == "count" and found & {"done", "next"}) else set()
        return ends | (found - {"done", "next", "leave"})

    def without_last(self, row):
        """The outcomes of a try without its last block."""
        found = set()
        for outcome in self.outcomes(row["blocks"][0]):
            handler = next((handler for words, handler in row["handlers"]
                            if outcome[:5] == "fail " and (not words or outcome[5:] in words)), None)
            found |= {outcome} if handler is None else self.outcomes(handler)
        return found

    def change(self, row):
        """Takes the last block out of a try."""
        last, found = row["last"], self.without_last(row)
        for block in row["blocks"] + [handler for _, handler in row["handlers"]]:
            self.bend(block, False)
        inner = {"row": row["row"], "from": None, "blocks": row["blocks"], "handlers": row["handlers"], "last": None}
        done = {"row": ("fail", self.codes["done"]), "from": None, "blocks": []}
        if row["handlers"]:
            row["blocks"] = [{"rows": [inner, done], "end": None}]
        else:
            done["from"] = row["blocks"][0]["end"]
            row["blocks"] = [{"rows": [*row["blocks"][0]["rows"], done], "end": None}]
        first = [outcome for outcome in ("done", "leave", "next", "back") if outcome in found]
        row["handlers"] = []
        for outcome in [*first, *sorted(found - set(first))]:
            block = copied(last)
            if outcome != "done":
                jump = tuple(outcome.split())
                block["rows"].append({"row": jump, "from": last["end"], "blocks": []})
                block["end"] = None
            row["handlers"].append(((self.codes[outcome] if outcome in self.codes else outcome[5:],), block))
        row["last"] = None

    def bend(self, block, looping):
        """Makes failures of what leads out of a block."""
        for row in block["rows"]:
            head = row["row"][0]
            if head == "back" or (head in ("leave", "next") and not looping):
                row["row"] = ("fail", self.codes[head])
            for inner in blocks_in(row):
                self.bend(inner, looping or head in LOOPS)

    def as_block(self, block):
        made = []
        for row in block["rows"]:
            blocks = [self.as_block(inner) for inner in row["blocks"]]
            if row["row"][0] == "try":
                made.append(("try", blocks[0], tuple((words, self.as_block(one)) for words, one in row["handlers"]), ()))
            elif row["row"][0] in LOOPS:
                made.append((*row["row"][:-1], *blocks))
            else:
                made.append(("either", *blocks) if blocks else row["row"])
        return tuple(made)

    def note(self, name, block, path):
        for at, row in enumerate(block["rows"]):
            self.spots[(name, (*path, at))] = row["from"]
            for part, inner in enumerate(blocks_in(row)):
                self.note(name, inner, (*path, at, part))
        self.spots[(name, (*path, len(block["rows"])))] = block["end"]

    def depth_of(self, block):
        return 1 + max([self.depth_of(inner) for row in block["rows"] for inner in blocks_in(row)], default=0)
