"""Profiles: what closed functions are to the functions around them."""

from surelyset.diagrams import Diagrams
from surelyset.errors import InvalidProfile, InvalidStates, NotClosed, TooMany, UnknownFunction
from surelyset.kinds import has_word_form, is_outcome, is_tuple_of
from surelyset.levels import END_LEVELS, READ_LEVELS, greater, is_at_most, lesser
from surelyset.marks import ENDS, KEEP, UNSET, codes_of
from surelyset.outlines import Outline
from surelyset.readings import Readings
from surelyset.studies import Study

MOST_OUTCOMES = 5
MOST_NAMES = 10
STATES = ("set", "unset")
# What a run does that never comes to an end.
ENDLESS = ("ever", ())


class Profile:
    """The worst ends by outcomes and names, and which names are read unset."""

    def __init__(self, outcomes, reads):
        if not are_outcomes(outcomes):
            raise InvalidProfile(outcomes)
        if not are_reads(reads, outcomes):
            raise InvalidProfile(reads)
        self._names = tuple(sorted(set(reads)))
        self._outcomes = {outcome: ordered(outcomes[outcome]) for outcome in sorted(set(outcomes))}
        self._reads = ordered(reads)

    @property
    def outcomes(self):
        """A dict from outcomes to dicts from names to the worst ends."""
        return {outcome: dict(self._outcomes[outcome]) for outcome in self._outcomes}

    @property
    def reads(self):
        """A dict from names to reads."""
        return dict(self._reads)

    @property
    def names(self):
        """The names, ascending."""
        return self._names

    def __eq__(self, other):
        return isinstance(other, Profile) and self._outcomes == other._outcomes and self._reads == other._reads

    def __le__(self, other):
        if not isinstance(other, Profile):
            return NotImplemented
        return is_profile_at_most(self, other)

    def __lt__(self, other):
        if not isinstance(other, Profile):
            return NotImplemented
        return is_profile_at_most(self, other) and not is_profile_at_most(other, self)

    def __ge__(self, other):
        if not isinstance(other, Profile):
            return NotImplemented
        return is_profile_at_most(other, self)

    def __gt__(self, other):
        if not isinstance(other, Profile):
            return NotImplemented
        return is_profile_at_most(other, self) and not is_profile_at_most(self, other)

    def __and__(self, other):
        if self.names != other.names:
            raise InvalidProfile(other)
        mine, others = self.outcomes, other.outcomes
        both = {outcome: lesser(END_LEVELS, mine[outcome], others[outcome]) for outcome in mine if outcome in others}
        return Profile(both, lesser(READ_LEVELS, self.reads, other.reads))

    def __or__(self, other):
        if self.names != other.names:
            raise InvalidProfile(other)
        mine, others = self.outcomes, other.outcomes
        both = {outcome: greater(END_LEVELS, mine[outcome], others.get(outcome, mine[outcome])) for outcome in mine}
        more = {outcome: others[outcome] for outcome in others if outcome not in mine}
        return Profile({**both, **more}, greater(READ_LEVELS, self.reads, other.reads))


def ordered(table):
    """A copy of a dict with its keys, words or outcomes, ascending."""
    return {key: table[key] for key in sorted(set(table))}


def are_outcomes(value):
    """Whether any value is a dict of outcomes to dicts with the same words and ends."""
    if not isinstance(value, dict) or not all([is_outcome(outcome) for outcome in value]):
        return False
    tables = list(value.values())
    if not all([is_table(table, END_LEVELS) for table in tables]):
        return False
    return all([set(table) == set(tables[0]) for table in tables])


def are_reads(value, outcomes):
    """Whether any value is a dict of words to reads, of the same ones as in these outcomes."""
    if not is_table(value, READ_LEVELS):
        return False
    return all([set(value) == set(outcomes[outcome]) for outcome in outcomes])


def is_table(value, levels):
    """Whether any value is a dict from words to some of these levels."""
    if not isinstance(value, dict) or not all([has_word_form(word) for word in value]):
        return False
    return all([isinstance(value[word], str) and value[word] in levels for word in value])


def is_profile_at_most(one, other):
    """Whether one profile is at most another one; not if their names differ."""
    if one.names != other.names or not is_at_most(READ_LEVELS, one.reads, other.reads):
        return False
    mine, others = one.outcomes, other.outcomes
    return all([outcome in others and is_at_most(END_LEVELS, mine[outcome], others[outcome]) for outcome in mine])


def profile(program, function):
    """The profile of a closed function."""
    if function == "main" or function not in program:
        raise UnknownFunction(function)
    outline = Outline(program.functions)
    wrong = spots_not_closed(outline, function)
    if wrong:
        raise NotClosed(wrong[0])
    parent, _, _ = program[function]
    outcomes = {outcome: {} for outcome in Study(outline, Diagrams(), []).ends[function]}
    reads = {}
    for name in plain_names(outline, parent):
        readings = Readings(outline, (outline.owners[parent][name], name))
        reads[name] = read_of(codes_of(readings.by_function[function]))
        for outcome in outcomes:
            outcomes[outcome][name] = worst_end(codes_of(readings.studied.ends[function][outcome]))
    return Profile(outcomes, reads)


def spots_not_closed(outline, function):
    """The spots, ascending, of statements that make a function not closed."""
    inside = [name for name in outline.bodies if function in outline.lines[name]]
    found = []
    for node in outline.nodes:
        if node.spot[0] in inside:
            is_call_out = node.word == "call" and node.row[1] not in inside
            is_array_out = len(node.row) == 3 and node.target is not None and node.target[0] not in inside
            if is_call_out or is_array_out:
                found.append(node.spot)
    return sorted(set(found))


def plain_names(outline, function):
    """The words that a function sees as plain or given names; None sees none."""
    if function is None:
        return []
    owners = outline.owners[function]
    return [word for word in owners if isinstance(outline.owns[owners[word]][word], str)]


def worst_end(codes):
    """The worst one of ends."""
    return END_LEVELS[max([int(END_LEVELS.index(ENDS[code])) for code in codes])]


def read_of(codes):
    """How a name is read unset that is read behind these ends."""
    if UNSET in codes:
        return "always"
    return "entry" if KEEP in codes else "none"


def body_for(profile):
    """A body with this profile, for a function without own names whose parent sees just these names."""
    outcomes, reads = profile.outcomes, profile.reads
    if len(outcomes) > MOST_OUTCOMES:
        raise TooMany(MOST_OUTCOMES)
    if len(reads) > MOST_NAMES:
        raise TooMany(MOST_NAMES)
    # What is read is read in runs that never end: so it does nothing to the ends.
    endless = []
    for name in reads:
        if reads[name] == "always":
            endless.append(("drop", name))
        if reads[name] != "none":
            endless.append(("read", name))
    endless.append(ENDLESS)
    if not outcomes:
        return tuple(endless)
    blocks = [outcome_block(outcome, outcomes[outcome]) for outcome in outcomes]
    return (("either", tuple(endless), *blocks),)


def outcome_block(outcome, ends):
    """A block with one run, which has this outcome and these ends."""
    words = {"set": "set", "unset": "drop"}
    rows = [(words[ends[name]], name) for name in ends if ends[name] in words]
    if outcome != "done":
        rows.append(("fail", outcome[len("fail "):]))
    return tuple(rows)


def parting(one, other):
    """A probe that a function of one profile can and none of the other one can, None if one is at most the other."""
    if one.names != other.names:
        raise InvalidProfile(other)
    mine, others = one.outcomes, other.outcomes
    for probe in probes_of(one.names, list(mine)):
        if told_of(mine, one.reads, probe) and not told_of(others, other.reads, probe):
            return probe
    return None


def probes_of(names, outcomes):
    """All probes for these names and outcomes."""
    probes = [(None, outcome, None) for outcome in outcomes]
    for state in STATES:
        for name in names:
            probes.append((state, None, name))
            probes.extend([(state, outcome, name) for outcome in outcomes])
    return probes


def probed(profile, probe):
    """Whether a function of the profile can do what the probe tells."""
    if not is_probe(probe, profile.names):
        raise InvalidStates(probe)
    return told_of(profile.outcomes, profile.reads, probe)


def is_probe(value, names):
    """Whether any value is a probe for these names."""
    if not is_tuple_of(value, 3):
        return False
    state, outcome, name = value
    if state is None:
        return is_outcome(outcome) and name is None
    if not isinstance(state, str) or state not in STATES or not isinstance(name, str) or name not in names:
        return False
    return outcome is None or is_outcome(outcome)


def told_of(outcomes, reads, probe):
    """Whether a function with these outcomes and reads can do what the probe tells."""
    state, outcome, name = probe
    if outcome is None:
        return reads[name] == "always" or (reads[name] == "entry" and state == "unset")
    if outcome not in outcomes:
        return False
    if state is None:
        return True
    end = outcomes[outcome][name]
    return end == "unset" or (end == "keep" and state == "unset")
