"""Whether a thing is so formed as a net of a flat is."""

from wiretongue.flatrows import rows_of
from wiretongue.gates import FED
from wiretongue.wholes import is_tuple, is_whole
from wiretongue.words import is_name


def is_box(gate, many):
    """Whether a gate of a net of so many is a box."""
    if not is_tuple(gate, 4) or gate[0] != "box" or not is_name(gate[1]):
        return False
    return is_whole(gate[2], 2) and is_whole(gate[3], many)


def is_fed(gate, ahead):
    """Whether a gate is a not, and, or, xor of gates of which so many are ahead."""
    if not isinstance(gate, tuple) or gate == () or gate[0] not in FED:
        return False
    many = 1 if gate[0] == "not" else 2
    return len(gate) == 1 + many and all([is_whole(feed, ahead) for feed in gate[1:]])


def is_in(gate, widths):
    """Whether a gate is a bit of an in, of which the widths are told by their paths."""
    if not is_tuple(gate, 3) or gate[0] != "in" or not isinstance(gate[1], str):
        return False
    return gate[1] in widths and is_whole(gate[2], widths[gate[1]])


def is_always(thing):
    """Whether a thing is ("is", b)."""
    return is_tuple(thing, 2) and thing[0] == "is" and is_whole(thing[1], 2)


def are_gates(flat, thing):
    """Whether a thing is a tuple of gates, no bit of an in twice."""
    if not isinstance(thing, tuple):
        return False
    widths = {row[1]: row[2] for row in rows_of(flat, "in")}
    ins = [gate for gate in thing if is_in(gate, widths)]
    if len(set(ins)) != len(ins):
        return False
    return all([is_in(gate, widths) or is_always(gate) or is_box(gate, len(thing)) or is_fed(gate, g)
                for g, gate in enumerate(thing)])


def is_where(thing, many):
    """Whether a thing tells where a bit leads in a net of so many gates."""
    led = is_tuple(thing, 2) and thing[0] == "gate" and is_whole(thing[1], many)
    return led or is_always(thing) or thing == ("gone",)


def is_trace(thing, path, k, many):
    """Whether a thing is the trace of a bit of a path, in a net of so many gates."""
    if not is_tuple(thing, 3) or thing[0] != path:
        return False
    return is_whole(thing[1], k + 1) and thing[1] == k and is_where(thing[2], many)


def are_traces(flat, thing, many):
    """Whether a thing is a rising tuple of traces, one for each bit of a flat."""
    bits = sorted([(row[1], k) for row in flat for k in range(row[2])])
    if not is_tuple(thing, len(bits)):
        return False
    return all([is_trace(trace, path, k, many) for trace, (path, k) in zip(thing, bits)])


def is_net(flat, thing):
    """Whether a thing is formed as a net of a flat, no bit of an out gone."""
    if not is_tuple(thing, 3) or not are_gates(flat, thing[0]):
        return False
    outs = tuple(sorted([row[1] for row in rows_of(flat, "out")]))
    if not are_traces(flat, thing[1], len(thing[0])) or thing[2] != outs:
        return False
    return all([where != ("gone",) for path, _, where in thing[1] if path in outs])
