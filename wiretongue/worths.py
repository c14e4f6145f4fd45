"""Bits by cases: a number for each bit, in which it stands case by case."""

from wiretongue.gates import FED, told_of_feeds


def column_of(bits):
    """The number in which bits stand, the first one lowest."""
    return int("".join(["1" if bit else "0" for bit in bits[::-1]]), 2)


def bits_in(column, many):
    """The bits that stand in a number, so many."""
    return [1 if sign == "1" else 0 for sign in f"{column:b}".zfill(many)[::-1]]


def worths_of(bits):
    """By cases what bits, the lowest first, are together, by what each is by cases."""
    return tuple([sum([bit << k for k, bit in enumerate(told)]) for told in zip(*bits)])


class Cases:
    """Tells of gates what they are in so many cases, by what sources are in these."""

    def __init__(self, many, sources):
        self.all_ones = (1 << many) - 1
        self.sources = sources

    def source(self, number):
        """What a source is by its number; nought where nothing is told of it."""
        return self.sources.get(number, 0)

    def bit(self, gate):
        """What a gate is whose feeds are these."""
        if gate[0] == "is":
            return self.all_ones if gate[1] else 0
        return told_of_feeds(gate[0], gate[1:], self.all_ones)


def in_turns(many, run):
    """A run of noughts, a run of ones, and so on, through so many cases."""
    # All ones by 1 and a run of noughts and 1 are every other run of ones.
    return ((1 << many) - 1) // ((1 << run) + 1) << run


def by_all_worths(sources):
    """The cases in which some sources, by their numbers, are of all worths."""
    many = 1 << len(sources)
    return Cases(many, {number: in_turns(many, 1 << place) for place, number in enumerate(sources)})


def bits_of_gates(maker, gates):
    """What a maker tells of each gate; ins and boxes are sources."""
    told = []
    for g, gate in enumerate(gates):
        if gate[0] in FED:
            feeds = [told[feed] for feed in gate[1:]]
            told.append(maker.bit((gate[0], *feeds)))
        else:
            told.append(maker.bit(gate) if gate[0] == "is" else maker.source(g))
    return told
