"""Outlines of programs: their statements with what they are about, for going through them again and again."""

from surelyset.blocks import CELL_WORDS, blocks_of
from surelyset.kinds import is_integer
from surelyset.sights import line_of, owners_of

NAME_WORDS = ("set", "drop", "read")


class Node:
    """A statement: its spot, itself, its blocks as Parts, and the nodes of the counts around it.

    Its target is the tuple (owner, name or array) that it is about, None for most words.
    """

    def __init__(self, spot, row, counts):
        self.spot = spot
        self.row = row
        self.word = row[0]
        self.counts = counts
        self.parts = []
        self.target = None
        self.is_calling = row[0] == "call"

    def rank(self):
        """Of a statement with a cell by a counter: which of the counts around has this counter."""
        counters = [node.row[1] for node in self.counts]
        return counters.index(self.row[2][0])

    def has_counter(self):
        """Whether the cell of this statement is one by a counter."""
        return not is_integer(self.row[2])


class Part:
    """A block: its nodes, and the spot at its end."""

    def __init__(self, nodes, end):
        self.nodes = nodes
        self.end = end


class Outline:
    """The bodies of a program's functions as Parts, and what is often asked about the functions."""

    def __init__(self, functions):
        self.owns = {name: functions[name][1] for name in functions}
        self.lines = {name: line_of(functions, name) for name in functions}
        self.owners = {name: owners_of(functions, name) for name in functions}
        # All nodes, a statement ahead of those within it.
        self.nodes = []
        self.bodies = {name: self.part(name, functions[name][2], (), ()) for name in functions}
        self.calls = {name: [] for name in functions}
        for node in self.nodes:
            if node.word == "call":
                self.calls[node.spot[0]].append(node)

    def part(self, function, block, path, counts):
        """A block as a Part; the path is its own one, without an index in it."""
        nodes = [self.node(function, row, (*path, at), counts) for at, row in enumerate(block)]
        return Part(nodes, (function, (*path, len(block))))

    def node(self, function, row, path, counts):
        """A statement as a Node."""
        node = Node((function, path), row, counts)
        self.nodes.append(node)
        if node.word in NAME_WORDS or node.word in CELL_WORDS:
            node.target = (self.owners[function][row[1]], row[1])
        inner = (*counts, node) if node.word == "count" else counts
        for at, block in enumerate(blocks_of(row)):
            node.parts.append(self.part(function, block, (*path, at), inner))
        inside = [one for part in node.parts for one in part.nodes]
        node.is_calling = node.is_calling or any([one.is_calling for one in inside])
        return node

    def callers(self):
        """A dict from functions to the list of those that have calls of them."""
        found = {name: [] for name in self.bodies}
        for name in self.calls:
            for node in self.calls[name]:
                if name not in found[node.row[1]]:
                    found[node.row[1]].append(name)
        return found

    def read_targets(self):
        """The different tuples (word, target) of the reads and looks, ascending."""
        return sorted(set([(node.word, node.target) for node in self.nodes if node.word in ("read", "look")]))

    def node_at(self, spot):
        """The node of the statement at a spot."""
        return [node for node in self.nodes if node.spot == spot][0]
