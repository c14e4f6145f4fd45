"""What the rows of a flat tell, beat by beat."""

from wiretongue.errors import NoPath
from wiretongue.flatrows import has_path, held_behind, parts_of_flat, rows_of, wires_ordered


def told_alike(word, one, other):
    """What words tell that go bit by bit."""
    if word == "and":
        return one & other
    return one | other if word == "or" else one ^ other


def told_of_two(word, one, other):
    """The (width, worth) that the words of two expressions tell of theirs."""
    width, worth = one
    if word == "sum":
        return (1 + max(width, other[0]), worth + other[1])
    if word == "same":
        return (1, 1 if worth == other[1] else 0)
    if word == "below":
        return (1, 1 if worth < other[1] else 0)
    if word == "join":
        return (width + other[0], worth | other[1] << width)
    return (width, told_alike(word, worth, other[1]))


def told_by(e, held):
    """The (width, worth) of an expression, by those of the paths."""
    word = e[0]
    if word == "name":
        return held[e[1]]
    if word == "num":
        return (e[1], e[2])
    parts = [told_by(part, held) for part in parts_of_flat(e)]
    width, worth = parts[0]
    if word == "not":
        return (width, worth ^ (1 << width) - 1)
    if word == "pick":
        return parts[1] if worth == 1 else parts[2]
    if word == "cut":
        return (e[1], worth & (1 << e[1]) - 1)
    if word == "bit":
        return (1, worth >> e[1] & 1)
    return told_of_two(word, parts[0], parts[1])


def held_in_beat(ins, boxes, others, worths, given):
    """(the (width, worth) of each path, the worths that boxes take), by what boxes hold and ins are given."""
    held = {row[1]: (row[2], worth) for row, worth in zip(ins + boxes, given + worths)}
    for row in others:
        held[row[1]] = told_by(row[3], held)
    return (held, tuple([told_by(row[5], held)[1] for row in boxes]))


def held_by_beats(flat, beats):
    """For each beat the (width, worth) of each path."""
    ins = rows_of(flat, "in")
    boxes = rows_of(flat, "box")
    # Outs come last, since no expression names one.
    others = wires_ordered(flat) + rows_of(flat, "out")
    worths = tuple([row[4] for row in boxes])
    # All hangs on what boxes hold and ins are given: for these it is told once.
    known = {}
    by_beats = []
    for clocks, given in beats:
        if (worths, given) not in known:
            known[(worths, given)] = held_in_beat(ins, boxes, others, worths, given)
        held, taken = known[(worths, given)]
        worths = held_behind(boxes, clocks, worths, taken)
        by_beats.append(held)
    return by_beats


def told(flat, beats):
    """For each beat what the outs tell, in order."""
    outs = [row[1] for row in rows_of(flat, "out")]
    return tuple([tuple([held[path][1] for path in outs]) for held in held_by_beats(flat, beats)])


def wave_of(flat, beats, path):
    """What a path is in each beat; NoPath of anything that is none."""
    if not has_path(flat, path):
        raise NoPath(path)
    return tuple([held[path][1] for held in held_by_beats(flat, beats)])
