"""Why a bit of a wave is as it is."""

from wiretongue.beats import held_by_beats
from wiretongue.cones import always, bits_asked
from wiretongue.errors import NoPath
from wiretongue.flatrows import has_path, rows_of, wires_ordered
from wiretongue.grounds import Grounds


def bits_ordered(flat):
    """(path, k) of all bits, each behind those by which it is so in the same beat."""
    rows = rows_of(flat, "in") + rows_of(flat, "box") + wires_ordered(flat) + rows_of(flat, "out")
    return [(row[1], k) for row in rows for k in range(row[2])]


class Why:
    """Steps that come backward, each with what it is so by.

    By (path, k, m) of each bit that some step asks stand such steps, as (cone,
    fixed): by the bits that it still asks what these are.
    """

    def __init__(self, flat, beats):
        self.held = held_by_beats(flat, beats)
        self.grounds = Grounds(flat, beats)
        self.asking = {}
        self.steps = []

    def bit(self, path, k, m):
        """What a bit is in beat m."""
        return self.held[m][path][1] >> k & 1

    def take(self, path, k, m):
        """Put a step for a bit."""
        self.steps.append((path, k, m, self.bit(path, k, m)))
        cone, beat = self.grounds.ground(path, k, m)
        fixed = {asked: self.bit(asked[0], asked[1], beat) for asked in bits_asked(cone)}
        for asked in list(fixed):
            self.asking.setdefault((asked[0], asked[1], beat), []).append((cone, fixed))

    def spare(self, path, k, m):
        """Whether all steps are so without a bit; if they are they ask it no more."""
        asking = self.asking.get((path, k, m), [])
        for cone, fixed in asking:
            if always(cone, {asked: fixed[asked] for asked in fixed if asked != (path, k)}) is None:
                return False
        for _, fixed in asking:
            del fixed[path, k]
        return True


def why_of(flat, beats, path, k, n):
    """Steps that tell why bit k of a path is as it is in beat n, all needed; NoPath."""
    if not has_path(flat, path):
        raise NoPath(path)
    why = Why(flat, beats)
    why.take(path, k, n)
    backward = bits_ordered(flat)[::-1]
    # Once all that a bit may serve is settled, so is whether it is needed: no later leaving
    # out of others can make it so that it isn't.
    for m in range(n, -1, -1):
        for name, bit in backward:
            if not why.spare(name, bit, m):
                why.take(name, bit, m)
    return tuple(why.steps[::-1])
