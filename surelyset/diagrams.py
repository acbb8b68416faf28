"""Masks that depend on the rounds in which the counts around stand, as diagrams.

A diagram is a number. One that is not negative is a mask, whatever the rounds are. A negative one stands for
a choice: its rank tells which of the counts around, from the outermost one on, and its branches are diagrams,
one for each kind of rounds of that count. Ranks grow from a diagram to its branches. Equal diagrams have equal
numbers, and branches that are all equal make no diagram of their own; so what rounds of many counts do is not
gone through round by round, as far as they do the same.

Instead of masks there may be leaves of another kind, in a class below: 0 for nothing at all, KEPT for what does
nothing, greater numbers for all else.
"""

from surelyset.marks import KEPT, mask_followed

# The rank of leaves: no count is as deep.
NO_RANK = 99
# So many rounds do what more of them do: each place was last set or dropped in one of three at most.
MANY_ROUNDS = 4


class Diagrams:
    """The diagrams that were made."""

    def __init__(self):
        # What the beginning of a statement or a round does.
        self.step = KEPT
        self.ranks = {}
        self.branches = {}
        self.numbers = {}
        self.follows = {}
        self.joins = {}
        self.choices = {}
        self.partings = {}
        self.wholes = {}
        self.flats = {}

    def leaf(self, code):
        """The leaf for this code alone."""
        return 1 << code

    def leaf_followed(self, one, other):
        """What two leaves do one after the other."""
        return mask_followed(one, other)

    def leaf_joined(self, one, other):
        """What one leaf or the other one does."""
        return one | other

    def wrapped(self, one, tag):
        """The same as a part, of this kind, of what is around it; masks do not tell parts."""
        return one

    def started(self, turn, rounds):
        """What is done ahead of any of so many rounds, each of which does this."""
        told = 0
        at = KEPT
        for _ in range(min(int(rounds), MANY_ROUNDS)):
            told = self.joined(told, at)
            at = self.followed(at, turn)
        return told

    def repeated(self, turn, rounds):
        """What is done by so many rounds, each of which does this."""
        told = KEPT
        for _ in range(min(int(rounds), MANY_ROUNDS)):
            told = self.followed(told, turn)
        return told

    def rank_of(self, one):
        """The rank of a diagram."""
        return NO_RANK if one >= 0 else self.ranks[one]

    def made(self, rank, branches):
        """The diagram with these branches, whose ranks are greater."""
        if all([branch == branches[0] for branch in branches]):
            return branches[0]
        key = (rank, tuple(branches))
        if key not in self.numbers:
            number = -1 - len(self.numbers)
            self.numbers[key] = number
            self.ranks[number] = rank
            self.branches[number] = list(branches)
        return self.numbers[key]

    def branches_at(self, one, rank, many):
        """What a diagram is for each of so many kinds of rounds, if its own rank is not less."""
        if self.rank_of(one) == rank:
            return self.branches[one]
        return [one] * many

    def pairs_at(self, one, other):
        """The rank of two diagrams, one of them no mask, and the pairs of their branches there."""
        rank = min(int(self.rank_of(one)), int(self.rank_of(other)))
        at = one if self.rank_of(one) == rank else other
        many = len(self.branches[at])
        return rank, list(zip(self.branches_at(one, rank, many), self.branches_at(other, rank, many)))

    def followed(self, one, other):
        """What both do one after the other, in the same rounds."""
        if one == 0 or other == KEPT:
            return one
        if other == 0 or one == KEPT:
            return other
        key = (one, other)
        if key not in self.follows:
            self.follows[key] = self.new_followed(one, other)
        return self.follows[key]

    def new_followed(self, one, other):
        """As followed, where it was not asked before."""
        if one > 0 and other > 0:
            return self.leaf_followed(one, other)
        rank, pairs = self.pairs_at(one, other)
        return self.made(rank, [self.followed(first, second) for first, second in pairs])

    def joined(self, one, other):
        """What one or the other does, in the same rounds."""
        if one == other or other == 0:
            return one
        if one == 0:
            return other
        if one > 0 and other > 0:
            return self.leaf_joined(one, other)
        key = (one, other)
        if key not in self.joins:
            rank, pairs = self.pairs_at(one, other)
            self.joins[key] = self.made(rank, [self.joined(first, second) for first, second in pairs])
        return self.joins[key]

    def chosen(self, one, rank, kind):
        """What a diagram is in rounds of this kind of the count with this rank."""
        own = self.rank_of(one)
        if own > rank:
            return one
        if own == rank:
            return self.branches[one][kind]
        key = (one, rank, kind)
        if key not in self.choices:
            self.choices[key] = self.made(own, [self.chosen(branch, rank, kind) for branch in self.branches[one]])
        return self.choices[key]

    def parted(self, rank, kinds):
        """The diagram that is each of these, of lesser ranks or masks, in rounds of one kind of a count."""
        least = min([int(self.rank_of(one)) for one in kinds])
        if least == NO_RANK:
            return self.made(rank, kinds)
        key = (rank, tuple(kinds))
        if key not in self.partings:
            many = max([len(self.branches[one]) for one in kinds if self.rank_of(one) == least])
            rows = [self.branches_at(one, least, many) for one in kinds]
            self.partings[key] = self.made(least, [self.parted(rank, [row[at] for row in rows]) for at in range(many)])
        return self.partings[key]

    def gathered(self, one, rank):
        """What any rounds of the innermost count, with this rank, do."""
        own = self.rank_of(one)
        if own > rank:
            return one
        key = (one, rank)
        if key not in self.wholes:
            self.wholes[key] = self.new_gathered(one, rank)
        return self.wholes[key]

    def new_gathered(self, one, rank):
        """As gathered, where it was not asked before and the diagram's own rank is not greater."""
        if self.rank_of(one) < rank:
            return self.made(self.rank_of(one), [self.gathered(branch, rank) for branch in self.branches[one]])
        whole = 0
        for branch in self.branches[one]:
            whole = self.joined(whole, branch)
        return whole

    def flat(self, one):
        """The leaf of what any rounds of all counts do."""
        if one >= 0:
            return one
        if one not in self.flats:
            whole = 0
            for branch in self.branches[one]:
                whole = self.joined(whole, self.flat(branch))
            self.flats[one] = whole
        return self.flats[one]
