"""Whether a thing tells the slowest way of a clock."""

from wiretongue.gates import FED, feeds_of
from wiretongue.kinds import DELAYS
from wiretongue.slowest import brought, own_delay
from wiretongue.wholes import is_natural, is_tuple, is_whole


def are_arrivals(gates, ways, thing, delays):
    """Whether a thing is an arrival of each gate, none ahead of what its feeds bring."""
    if not is_tuple(thing, len(gates)) or not all([is_natural(arrival) for arrival in thing]):
        return False
    for g, gate in enumerate(gates):
        if gate[0] in FED:
            own = own_delay(gate, delays)
            if any([thing[g] < time + own for time, _ in brought(thing, gates, ways, g, delays[0])]):
                return False
    return True


def is_path(gates, clock, thing):
    """Whether a thing is gates, each a feed of the next one, from a start to a box of a clock."""
    if not isinstance(thing, tuple) or len(thing) < 2:
        return False
    if not all([is_whole(g, len(gates)) for g in thing]):
        return False
    if gates[thing[0]][0] in FED or gates[thing[-1]][:2] != ("box", clock):
        return False
    if not all([gates[g][0] in FED for g in thing[1:-1]]):
        return False
    return all([feed in feeds_of(gates[g]) for feed, g in zip(thing, thing[1:])])


def path_time(gates, ways, path, delays):
    """How long a path takes, by its own steps and delays."""
    time = 0
    for feed, g in zip(path, path[1:]):
        # The box at its end has no delay of its own.
        own = own_delay(gates[g], delays) if gates[g][0] in FED else 0
        lengths = [len(way) - 1 for way, fed in zip(ways[g], feeds_of(gates[g])) if fed == feed]
        time += delays[0] * max(lengths) + own
    return time


def slowest_holds(net, laying, clock, thing, *, delays=DELAYS):
    """Whether a thing is (time, path, arrivals) of a clock, such that no way is slower."""
    gates = net[0]
    ways = laying[1]
    if not is_tuple(thing, 3):
        return False
    time, path, arrivals = thing
    if not is_natural(time) or not are_arrivals(gates, ways, arrivals, delays):
        return False
    boxes = [g for g, gate in enumerate(gates) if gate[:2] == ("box", clock)]
    if not boxes:
        return time == 0 and path == ()
    late = [g for g in boxes if brought(arrivals, gates, ways, g, delays[0])[0][0] > time]
    return not late and is_path(gates, clock, path) and path_time(gates, ways, path, delays) == time
