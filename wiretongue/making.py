"""Gates in the making: one behind the other, folded and shared where that is asked."""

from wiretongue.gates import FED


def folded_by(word, always, other):
    """What and, or, xor come to where one feed always is a bit: a gate, or the other feed."""
    if word == "xor":
        return ("not", other) if always else other
    # An and is ended by 0, an or by 1; the other bit leaves what comes beside it.
    ends = 1 if word == "or" else 0
    return ("is", ends) if always == ends else other


def folded(rows, gate):
    """What a gate comes to by feeds that are an is, or alike: a gate, or the number of one.

    The rows are the gates ahead of it.
    """
    word = gate[0]
    if word not in FED:
        return gate
    first, last = gate[1], gate[-1]
    if word == "not":
        return ("is", 1 - rows[first][1]) if rows[first][0] == "is" else gate
    if first == last:
        return ("is", 0) if word == "xor" else first
    if rows[first][0] == "is":
        told = folded_by(word, rows[first][1], last)
    elif rows[last][0] == "is":
        told = folded_by(word, rows[last][1], first)
    else:
        return gate
    return told if isinstance(told, int) else folded(rows, told)


class Gates:
    """The gates that have come, and the numbers of those that may be shared."""

    def __init__(self):
        self.rows = []
        self.numbers = {}

    def new(self, gate):
        """The number of a gate that comes."""
        self.rows.append(gate)
        return len(self.rows) - 1

    def alike(self, gate):
        """The number of a gate that is alike, its feeds in any order, or else of this one."""
        parts = sorted(gate[1:]) if gate[0] in FED else gate[1:]
        told = (gate[0], *parts)
        if told not in self.numbers:
            self.numbers[told] = self.new(gate)
        return self.numbers[told]

    def fold(self, gate):
        """The number of what a gate comes to."""
        told = folded(self.rows, gate)
        return told if isinstance(told, int) else self.new(told)

    def bit(self, gate):
        """The number of what a gate comes to, or of one that is alike."""
        told = folded(self.rows, gate)
        return told if isinstance(told, int) else self.alike(told)
