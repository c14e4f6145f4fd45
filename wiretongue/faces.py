"""A module's face: what a use asks of it."""


def clock_number(clocks, name):
    """The number of the first clock so called, None where none is."""
    return clocks.index(name) if name in clocks else None


def face_of(tree):
    """The clocks, ins and outs of a module's tree, in the order of rows."""
    clocks = tuple([row[1] for row in tree if row[0] == "clock"])
    ins = tuple([(row[1], row[2], clock_number(clocks, row[3])) for row in tree if row[0] == "in"])
    outs = tuple([(row[1], row[2], clock_number(clocks, row[3])) for row in tree if row[0] == "out"])
    return (clocks, ins, outs)
