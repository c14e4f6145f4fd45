"""A design made flat: one row behind the other, without uses."""

from wiretongue.errors import Ring
from wiretongue.flatrows import wires_named
from wiretongue.reading import read_module
from wiretongue.rings import ring_in


def bare(e, ahead):
    """An expression without its places, its names with what stands ahead of them."""
    if e[0] == "name":
        return ("name", ahead + e[2])
    parts = [bare(part, ahead) if isinstance(part, tuple) else part for part in e[2:]]
    return (e[0], *parts)


class Place:
    """Where a module stands in the flat.

    Ahead of its names stands ahead; clocks are the top's by its own; handed
    are the flat expressions by its ins, None where it is the top itself.
    """

    def __init__(self, module, ahead, clocks, handed):
        self.module = module
        self.ahead = ahead
        self.clocks = clocks
        self.handed = handed


def flat_cross(place, row):
    """The two boxes of a cross."""
    _, name, clock, worth, e = row
    path = place.ahead + name
    first = path + ".one"
    beat = place.clocks[clock]
    return [
        ("box", first, 1, beat, worth, bare(e, place.ahead)),
        ("box", path, 1, beat, worth, ("name", first)),
    ]


def flat_row(place, row):
    """The flat rows of one row that is no use."""
    if row[0] == "clock":
        return []
    if row[0] == "cross":
        return flat_cross(place, row)
    path = place.ahead + row[1]
    if row[0] == "in":
        if place.handed is None:
            return [("in", path, row[2], place.clocks[row[3]])]
        return [("wire", path, row[2], place.handed[row[1]])]
    e = bare(row[-1], place.ahead)
    if row[0] == "box":
        return [("box", path, row[2], place.clocks[row[3]], row[4], e)]
    word = "out" if row[0] == "out" and place.handed is None else "wire"
    return [(word, path, row[2], e)]


def place_used(trees, place, use):
    """Where the module of a use stands, by where the use stands."""
    _, name, module, clocks, parts = use
    asked = [row[1] for row in trees[module] if row[0] == "clock"]
    ins = [row[1] for row in trees[module] if row[0] == "in"]
    beats = {clock: place.clocks[given] for clock, given in zip(asked, clocks)}
    handed = {name: bare(e, place.ahead) for name, e in zip(ins, parts)}
    return Place(module, place.ahead + name + ".", beats, handed)


def rows_at(trees, place):
    """The flat rows of a module at its place, each as (row, whence)."""
    told = []
    for number, row in enumerate(trees[place.module]):
        if row[0] == "use":
            told.extend(rows_at(trees, place_used(trees, place, row)))
        else:
            told.extend([(flat, (place.module, number)) for flat in flat_row(place, row)])
    return told


def flat_of(design, top):
    """The flat of a right design's top, and whence its rows come; or Ring."""
    trees = {name: read_module(text) for name, text in design}
    beats = {row[1]: row[1] for row in trees[top] if row[0] == "clock"}
    told = rows_at(trees, Place(top, "", beats, None))
    flat = tuple([row for row, _ in told])
    ring = ring_in(wires_named(flat))
    if ring:
        raise Ring(ring)
    return (flat, tuple([whence for _, whence in told]))
