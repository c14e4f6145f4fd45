"""By what the bits of a flat's names are so, beat by beat."""

from wiretongue.cones import cones_of
from wiretongue.flatrows import first_bit, rows_of


class Grounds:
    """By what each bit is so in some beats of a flat."""

    def __init__(self, flat, beats):
        self.beats = beats
        self.named = {row[1]: row for row in flat}
        self.widths = {row[1]: row[2] for row in flat}
        self.places = {row[1]: place for place, row in enumerate(rows_of(flat, "in"))}
        self.cones = {}

    def cone(self, row, k):
        """The cone of a bit of the expression of a wire, an out or a box."""
        if row[1] not in self.cones:
            self.cones[row[1]] = cones_of(row[-1], self.widths)
        return self.cones[row[1]][k]

    def ground(self, path, k, m):
        """A cone as which a bit is in beat m, and the beat in which the bits of names in it are."""
        row = self.named[path]
        if row[0] == "in":
            return ((("is", self.beats[m][1][self.places[path]] >> k & 1),), m)
        if row[0] != "box":
            return (self.cone(row, k), m)
        if m == 0:
            return ((("is", first_bit(row, k)),), m)
        if row[3] not in self.beats[m - 1][0]:
            return ((("in", path, k),), m - 1)
        return (self.cone(row, k), m - 1)
