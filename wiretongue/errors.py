"""The refusals, each of one kind of failure."""


class WireError(Exception):
    """What is written, or what is asked of it, is amiss."""


class Fault(WireError):
    """Something is amiss in a design, at a place of a module."""

    def __init__(self, stage, module, place):
        self.stage = stage
        self.module = module
        self.place = place


class Nested(WireError):
    """Modules use one another in a ring."""

    def __init__(self, ring):
        self.ring = ring


class Ring(WireError):
    """Wires name one another in a ring."""

    def __init__(self, ring):
        self.ring = ring


class NoRoom(WireError):
    """A table has fewer cells than there are gates."""

    def __init__(self, many):
        self.many = many


class NoPaper(WireError):
    """Nothing was made yet."""


class Unlike(WireError):
    """Two flats are of two sorts."""


class TooMany(WireError):
    """More standings come than were let."""

    def __init__(self, most):
        self.most = most


class NoText(ValueError):
    """What was to be read is no such text."""

    def __init__(self, place):
        self.place = place


class NoName(KeyError):
    """No module is called so."""

    def __init__(self, name):
        self.name = name


class NoPath(KeyError):
    """No row of a flat is called so."""

    def __init__(self, path):
        self.path = path
