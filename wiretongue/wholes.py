"""Whether things are whole numbers and tuples."""


def is_natural(thing):
    """Whether a thing is a whole number from 0 on."""
    return isinstance(thing, int) and not isinstance(thing, bool) and thing >= 0


def is_whole(thing, end):
    """Whether a thing is a whole number from 0 below an end."""
    return is_natural(thing) and thing < end


def is_tuple(thing, many):
    """Whether a thing is a tuple of so many parts."""
    return isinstance(thing, tuple) and len(thing) == many
