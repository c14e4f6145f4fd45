"""The bits of expressions, each made of gates by itself: a cone, the bit its last gate.

The bits of names stand in it as gates ("in", path, k).
"""

from wiretongue.bitwise import bits_of
from wiretongue.flatrows import paths_in
from wiretongue.making import Gates
from wiretongue.renumbering import only_gates
from wiretongue.worths import bits_of_gates, by_all_worths


def cones_of(e, widths):
    """The cones of the bits of a flat expression, by how wide the names in it are."""
    made = Gates()
    held = {}
    for path in paths_in(e):
        if path not in held:
            held[path] = [made.new(("in", path, k)) for k in range(widths[path])]
    # What feeds a gate stands ahead of it, so the bit itself is the last one.
    return [only_gates(made.rows, [g])[0] for g in bits_of(made, e, held)]


def bits_asked(cone):
    """(path, k) of the bits of names in a cone."""
    return [gate[1:] for gate in cone if gate[0] == "in"]


def always(cone, fixed):
    """What a cone's bit is by all worths of those bits that aren't fixed: None where it is either."""
    gates = [("is", fixed[gate[1:]]) if gate[0] == "in" and gate[1:] in fixed else gate for gate in cone]
    cases = by_all_worths([g for g, gate in enumerate(gates) if gate[0] == "in"])
    told = bits_of_gates(cases, gates)[-1]
    if told == 0:
        return 0
    return 1 if told == cases.all_ones else None
