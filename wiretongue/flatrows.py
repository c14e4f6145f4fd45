"""What the rows of a flat tell of one another."""

from wiretongue.rings import ordered


def parts_of_flat(e):
    """The expressions that stand straight in a flat expression, in order."""
    return [part for part in e[1:] if isinstance(part, tuple)]


def paths_in(e):
    """The paths that a flat expression names, in order."""
    if e[0] == "name":
        return [e[1]]
    paths = []
    for part in parts_of_flat(e):
        paths.extend(paths_in(part))
    return paths


def wires_named(flat):
    """By each wire's path the paths of wires in its expression, each once."""
    wires = {row[1]: row[3] for row in flat if row[0] == "wire"}
    named = {path: {name: True for name in paths_in(wires[path])} for path in wires}
    return {path: [name for name in named[path] if name in wires] for path in wires}


def wires_ordered(flat):
    """The rows of the wires, each behind those that it names."""
    rows = {row[1]: row for row in flat if row[0] == "wire"}
    return [rows[path] for path in ordered(wires_named(flat))]


def rows_of(flat, word):
    """The rows of one sort, in order."""
    return [row for row in flat if row[0] == word]


def has_path(flat, thing):
    """Whether a thing is the path of a row."""
    return thing in [row[1] for row in flat]


def first_bit(box, k):
    """What a bit of a box is at first."""
    return box[4] >> k & 1


def held_behind(boxes, clocks, held, taken):
    """What boxes hold behind a beat of clocks, by what they held and what they take."""
    return tuple([late if row[3] in clocks else ahead for row, ahead, late in zip(boxes, held, taken)])
