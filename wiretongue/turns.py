"""Nets turned into such of no more gates."""

from wiretongue.making import Gates
from wiretongue.renumbering import gates_traced, only_fed, traces_by, with_feeds


def fold(made, gate):
    """The number of what a gate comes to by feeds that are an is, or alike."""
    return made.fold(gate)


def share(made, gate):
    """The number of a gate that is alike, or else of this one."""
    return made.alike(gate)


STEPS = {"fold": fold, "share": share}


def rebuilt(net, step):
    """A net each of whose gates but boxes came by a step, in order."""
    gates, traces, outs = net
    made = Gates()
    numbers = {}
    for g, gate in enumerate(gates):
        # No box is folded or shared, and its feed may come behind it.
        numbers[g] = made.new(gate) if gate[0] == "box" else step(made, with_feeds(gate, numbers))
    rows = [with_feeds(row, numbers) if row[0] == "box" else row for row in made.rows]
    return (tuple(rows), traces_by(traces, numbers), outs)


def turned(net, turn):
    """A net that tells what a net tells, of no more gates."""
    if turn == "drop":
        return only_fed(net, gates_traced(net[1], net[2]))
    step = STEPS[turn]
    return rebuilt(net, step)
