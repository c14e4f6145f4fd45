"""Nets whose gates are numbered anew."""

from wiretongue.gates import FED, feeds_of


def fed_by(gates, starts):
    """Some gates, and those that feed them, on and on: True by number."""
    told = {}
    coming = list(starts)
    while coming:
        g = coming.pop()
        if g not in told:
            told[g] = True
            coming.extend(feeds_of(gates[g]))
    return told


def with_feeds(gate, numbers):
    """A gate, its feeds by their new numbers."""
    if gate[0] == "box":
        return ("box", gate[1], gate[2], numbers[gate[3]])
    if gate[0] in FED:
        feeds = [numbers[feed] for feed in gate[1:]]
        return (gate[0], *feeds)
    return gate


def where_by(where, numbers):
    """Where a bit leads, by new numbers; what has none is gone."""
    if where[0] != "gate":
        return where
    return ("gate", numbers[where[1]]) if where[1] in numbers else ("gone",)


def traces_by(traces, numbers):
    """The traces of a net, by new numbers."""
    return tuple([(path, k, where_by(where, numbers)) for path, k, where in traces])


def gates_traced(traces, paths):
    """The gates to which bits of some paths are traced."""
    return [where[1] for path, _, where in traces if path in paths and where[0] == "gate"]


def only_gates(gates, starts):
    """The gates of starts and those that feed such, and their new numbers."""
    numbers = {g: k for k, g in enumerate(sorted(fed_by(gates, starts)))}
    return (tuple([with_feeds(gates[g], numbers) for g in numbers]), numbers)


def only_fed(net, starts):
    """A net with just its ins, the gates of starts and those that feed such."""
    gates, traces, outs = net
    ins = [g for g, gate in enumerate(gates) if gate[0] == "in"]
    rows, numbers = only_gates(gates, ins + starts)
    return (rows, traces_by(traces, numbers), outs)
