"""The slowest way of a clock."""

from wiretongue.gates import FED, feeds_of
from wiretongue.kinds import DELAYS


def brought(arrivals, gates, ways, g, step):
    """When what each feed of a gate tells comes to it, by its way: (time, feed) of each."""
    return [(arrivals[feed] + step * (len(way) - 1), feed) for feed, way in zip(feeds_of(gates[g]), ways[g])]


def own_delay(gate, delays):
    """What a not, and, or, xor takes itself."""
    return delays[1] if gate[0] == "not" else delays[2]


def arrivals_of(gates, ways, delays):
    """When each gate arrives."""
    arrivals = []
    for g, gate in enumerate(gates):
        if gate[0] in FED:
            time, _ = max(brought(arrivals, gates, ways, g, delays[0]))
            arrivals.append(time + own_delay(gate, delays))
        else:
            arrivals.append(0)
    return tuple(arrivals)


def path_to(box, gates, ways, arrivals, step):
    """The gates by which a box is told as late as it is, it the last."""
    path = [box]
    going = True
    while going:
        _, feed = max(brought(arrivals, gates, ways, path[-1], step))
        path.append(feed)
        going = gates[feed][0] in FED
    return tuple(path[::-1])


def slowest(net, laying, clock, *, delays=DELAYS):
    """The (time, path, arrivals) of a clock: the greatest time that any of its boxes has."""
    gates = net[0]
    ways = laying[1]
    arrivals = arrivals_of(gates, ways, delays)
    boxes = [g for g, gate in enumerate(gates) if gate[0] == "box" and gate[1] == clock]
    if not boxes:
        return (0, (), arrivals)
    time, box = max([(brought(arrivals, gates, ways, g, delays[0])[0][0], g) for g in boxes])
    return (time, path_to(box, gates, ways, arrivals, delays[0]), arrivals)
