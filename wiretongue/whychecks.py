"""Whether a thing tells why a bit of a wave is as it is."""

from wiretongue.cones import always, bits_asked
from wiretongue.grounds import Grounds
from wiretongue.wholes import is_tuple, is_whole


def is_step(widths, many, thing):
    """Whether a thing is a step: that a bit of a name is nought or one in one of so many beats."""
    if not is_tuple(thing, 4) or not isinstance(thing[0], str) or thing[0] not in widths:
        return False
    return is_whole(thing[1], widths[thing[0]]) and is_whole(thing[2], many) and is_whole(thing[3], 2)


def follows(grounds, ahead, step):
    """Whether a step is so by those ahead of it."""
    path, k, m, b = step
    cone, beat = grounds.ground(path, k, m)
    named = {(name, bit): (name, bit, beat) for name, bit in bits_asked(cone)}
    fixed = {asked: ahead[named[asked]] for asked in named if named[asked] in ahead}
    return always(cone, fixed) == b


def why_holds(flat, beats, path, k, n, thing):
    """Whether a thing is a why of bit k of a path in beat n, though some steps could be left out."""
    grounds = Grounds(flat, beats)
    if not isinstance(thing, tuple) or thing == ():
        return False
    if not all([is_step(grounds.widths, len(beats), step) for step in thing]) or thing[-1][:3] != (path, k, n):
        return False
    ahead = {}
    for step in thing:
        if step[:3] in ahead or not follows(grounds, ahead, step):
            return False
        ahead[step[:3]] = step[3]
    return True
