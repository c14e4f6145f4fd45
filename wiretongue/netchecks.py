"""Whether a net tells, beat by beat, what a flat tells."""

from wiretongue.bitwise import bits_by_path, bits_taken
from wiretongue.flatrows import first_bit, rows_of
from wiretongue.netforms import is_net
from wiretongue.worths import bits_of_gates, by_all_worths

MOST_SOURCES = 8
# What is so by all worths of some sources is so by all worths of more; so
# claims are asked together, as long as they hang on no more than these.
MOST_TOGETHER = 10


def joined_sources(one, other, most):
    """The sources that are in one of both, rising; None where they are too many."""
    if one is None or other is None:
        return None
    if one == other:
        return one
    told = tuple(sorted(set(one + other)))
    return told if len(told) <= most else None


class Hanging:
    """Tells of gates the sources on which they hang: a rising tuple, None of too many."""

    def source(self, number):
        """What a source by its number hangs on: itself."""
        return (number,)

    def bit(self, gate):
        """What a gate hangs on whose feeds hang on these."""
        if gate[0] == "is":
            return ()
        return joined_sources(gate[1], gate[-1], MOST_SOURCES)


def sources_held(maker, flat, net):
    """By the path of each in and box what its bits are: sources, or what they always are."""
    gates, traces, _ = net
    words = {row[1]: row[0] for row in flat}
    ins = {gate[1:]: g for g, gate in enumerate(gates) if gate[0] == "in"}
    held = {}
    for at, (path, k, where) in enumerate(traces):
        # Gates are sources by their own numbers; behind these come bits without a gate.
        own = ins.get((path, k), len(gates) + at)
        if words[path] == "in":
            held.setdefault(path, []).append(maker.source(own))
        elif words[path] == "box" and where[0] == "is":
            held.setdefault(path, []).append(maker.bit(where))
        elif words[path] == "box":
            held.setdefault(path, []).append(maker.source(where[1] if where[0] == "gate" else own))
    return held


def claims(maker, flat, net):
    """What each claim says to be alike: (a bit of the flat, a bit of the net)."""
    gates, traces, _ = net
    bits = bits_by_path(maker, flat, sources_held(maker, flat, net))
    taken = bits_taken(maker, flat, bits)
    told = bits_of_gates(maker, gates)
    both = []
    for path, k, where in traces:
        asked = taken if path in taken else bits
        if where[0] == "is":
            both.append((asked[path][k], maker.bit(where)))
        elif where[0] == "gate":
            g = gates[where[1]][3] if path in taken else where[1]
            both.append((asked[path][k], told[g]))
    return both


def together(hung):
    """Claims by their numbers, those together that hang on few sources: (sources, numbers)."""
    told = []
    sources, numbers = (), []
    for hanging, number in sorted([(hanging, number) for number, hanging in enumerate(hung)]):
        both = joined_sources(sources, hanging, MOST_TOGETHER)
        if both is None:
            told.append((sources, numbers))
            both, numbers = hanging, []
        sources = both
        numbers.append(number)
    return told + [(sources, numbers)]


def claims_hold(flat, net):
    """Whether each claim hangs on few sources and is so by all worths of these."""
    hung = [joined_sources(one, other, MOST_SOURCES) for one, other in claims(Hanging(), flat, net)]
    if None in hung:
        return False
    for sources, numbers in together(hung):
        both = claims(by_all_worths(sources), flat, net)
        if any([both[number][0] != both[number][1] for number in numbers]):
            return False
    return True


def boxes_lead(flat, net):
    """Whether the bits of boxes lead to boxes that begin and beat as they, or to how they begin."""
    gates, traces, _ = net
    boxes = {row[1]: row for row in rows_of(flat, "box")}
    led = []
    for path, k, where in traces:
        if path not in boxes or where == ("gone",):
            continue
        first = first_bit(boxes[path], k)
        if where[0] == "gate":
            led.append(where[1])
            if gates[where[1]][:3] != ("box", boxes[path][3], first):
                return False
        elif where[1] != first:
            return False
    return len(set(led)) == len(led)


def net_holds(flat, thing):
    """Whether a thing is a net that holds of a flat."""
    return is_net(flat, thing) and boxes_lead(flat, thing) and claims_hold(flat, thing)
