"""Whether things are whole numbers and tuples."""


def is_whole(thing, end):
    """Whether a thing is a whole number from 0 below an end."""
    return isinstance(thing, int) and not isinstance(thing, bool) and 0 <= thing < end


def is_tuple(thing, many):
    """Whether a thing is a tuple of so many parts."""
    return isinstance(thing, tuple) and len(thing) == many
