"""A flat made to gates."""

from wiretongue.bitwise import bits_by_path, bits_taken
from wiretongue.flatrows import first_bit, rows_of
from wiretongue.making import Gates
from wiretongue.renumbering import gates_traced, only_fed


def held_bits(made, flat):
    """By the path of each in and box the gates of its bits."""
    held = {}
    for row in flat:
        if row[0] == "in":
            held[row[1]] = [made.new(("in", row[1], k)) for k in range(row[2])]
        if row[0] == "box":
            # Its feed isn't known yet: nought stands in till it is.
            held[row[1]] = [made.new(("box", row[3], first_bit(row, k), 0)) for k in range(row[2])]
    return held


def feed_boxes(made, boxes, bits, taken):
    """Put its feed to the gate of each bit of a box."""
    for row in boxes:
        for k, g in enumerate(bits[row[1]]):
            made.rows[g] = ("box", row[3], first_bit(row, k), taken[row[1]][k])


def where_of(gates, g):
    """Where a bit is traced whose gate is this one."""
    return gates[g] if gates[g][0] == "is" else ("gate", g)


def net_of(flat):
    """A net that holds of a flat, nothing gone, each of whose boxes some bit is traced to."""
    made = Gates()
    bits = bits_by_path(made, flat, held_bits(made, flat))
    feed_boxes(made, rows_of(flat, "box"), bits, bits_taken(made, flat, bits))
    gates = tuple(made.rows)
    traces = tuple([(path, k, where_of(gates, g)) for path in sorted(bits) for k, g in enumerate(bits[path])])
    outs = tuple(sorted([row[1] for row in rows_of(flat, "out")]))
    # Bits that were cut off left gates behind that no name leads to.
    return only_fed((gates, traces, outs), gates_traced(traces, bits))
