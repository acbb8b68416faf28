"""Settings at spots: the cheapest ones without which a name is read unset, and bounds for what they cost."""

from surelyset.errors import InvalidPrices, UnknownName, UnknownSpot
from surelyset.frees import FreeSpots
from surelyset.kinds import is_integer, is_tuple_of
from surelyset.limits import MAX_SIZE
from surelyset.nets import Net
from surelyset.outlines import Outline
from surelyset.plantings import planted
from surelyset.programs import Program
from surelyset.diagrams import Diagrams
from surelyset.studies import Study
from surelyset.verdicts import verdict_of


def cheapest(program, function, name, prices):
    """The tuple (cost, spots) of a cheapest choice among the spots with prices, None if there is none."""
    frees = priced(program, function, name, prices)
    net = filled_net(frees, prices)
    if net is None:
        return None
    reached = net.come_to(net.free_rooms())
    cut = [spot for spot in sorted(set(prices)) if ("in", spot) in reached and ("out", spot) not in reached]
    return sum([prices[spot] for spot in cut]), tuple(cut)


def bound_for(program, function, name, prices):
    """A bound with as great a sum as the cheapest choice costs, None if there is no choice."""
    frees = priced(program, function, name, prices)
    net = filled_net(frees, prices)
    if net is None:
        return None
    found = []
    for amount, vertices in net.ways():
        found.append((amount, tuple([spot for side, spot in vertices if side == "in"])))
    return tuple(found)


def bound(program, function, name, prices, value):
    """The sum of the amounts of any value that is a bound for these prices, otherwise None."""
    frees = priced(program, function, name, prices)
    if not isinstance(value, tuple) or not all([is_part(frees, prices, part) for part in value]):
        return None
    for spot in prices:
        if sum([amount for amount, way in value if spot in way]) > prices[spot]:
            return None
    return sum([amount for amount, _ in value])


def is_choice(program, function, name, spots):
    """Whether with settings at these spots no read of the name comes to it unset."""
    functions = with_settings(program, function, name, spots)
    outline = Outline(functions)
    study = Study(outline, Diagrams(), [(function, name)])
    reads = [node for node in outline.nodes if node.word == "read" and node.target == (function, name)]
    return all([verdict_of(study.states_at(node.spot)) != "fault" for node in reads])


def settled(program, function, name, spots):
    """The program with settings of the name at these spots."""
    return Program(with_settings(program, function, name, spots))


def frees_of(program, function, name):
    """The free spots of a function for one of its names; the error that is due if it is none."""
    _, names, _ = program[function]
    if not isinstance(name, str) or not isinstance(names.get(name), str):
        raise UnknownName(name)
    return FreeSpots(Outline(program.functions), function, name)


def priced(program, function, name, prices):
    """As frees_of; InvalidPrices for any value that is no dict of prices."""
    frees = frees_of(program, function, name)
    if not isinstance(prices, dict):
        raise InvalidPrices(prices)
    for spot in prices:
        if not frees.is_free(spot) or not is_integer(prices[spot]) or not 1 <= prices[spot] <= MAX_SIZE:
            raise InvalidPrices(prices)
    return frees


def filled_net(frees, prices):
    """The net of the unset ways, each spot an arc with the room of its price, filled; None if there is no choice."""
    net = Net()
    # What has no price cannot be filled by what has one.
    boundless = 1 + sum([prices[spot] for spot in prices])
    for spot in frees.after:
        net.add_arc(("in", spot), ("out", spot), prices.get(spot, boundless))
        if spot in frees.starts:
            net.add_arc("start", ("in", spot), boundless)
        if frees.is_last(spot):
            net.add_arc(("out", spot), "goal", boundless)
        for behind in frees.kept_after(spot):
            net.add_arc(("out", spot), ("in", behind), boundless)
    if frees.is_hopeless() or net.path([room if room == boundless else 0 for room in net.rooms]) is not None:
        return None
    net.fill()
    return net


def is_part(frees, prices, value):
    """Whether any value is a tuple of an amount and an unset way with a spot that has a price."""
    if not is_tuple_of(value, 2) or not is_integer(value[0]) or value[0] < 1:
        return False
    return frees.is_unset_way(value[1]) and any([spot in prices for spot in value[1]])


def with_settings(program, function, name, spots):
    """The functions of a program with settings of the name at these spots; the error that is due for those."""
    frees = frees_of(program, function, name)
    chosen = {}
    for spot in spots:
        if not frees.is_free(spot) or spot in chosen:
            raise UnknownSpot(spot)
        chosen[spot] = True
    functions = program.functions
    parent, names, body = functions[function]
    functions[function] = (parent, names, planted(function, body, (), chosen, ("set", name)))
    return functions
