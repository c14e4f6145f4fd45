"""Two flats held together: beats that part them, or the standings that come."""

from wiretongue.bitwise import bits_by_path, bits_taken
from wiretongue.errors import TooMany, Unlike
from wiretongue.flatrows import held_behind, rows_of
from wiretongue.kinds import MOST
from wiretongue.making import Gates
from wiretongue.pairs import all_beating, all_given, clocks_of_both, first_standing, held_columns, of_one_sort
from wiretongue.pairs import taken_by_cases
from wiretongue.worths import Cases, bits_in, bits_of_gates


class Side:
    """One of two flats that are made to the same gates.

    Sources stand by their gates' numbers: (path, k) of the bit that each is.
    """

    def __init__(self, flat, made, ins):
        held = {path: ins[path] for path in ins}
        for row in rows_of(flat, "box"):
            held[row[1]] = [made.new(("box", row[1], k)) for k in range(row[2])]
        bits = bits_by_path(made, flat, held)
        self.boxes = rows_of(flat, "box")
        self.flat_rows = flat
        self.sources = {g: (path, k) for path in held for k, g in enumerate(held[path])}
        self.taken = bits_taken(made, flat, bits)
        self.outs = [g for row in rows_of(flat, "out") for g in bits[row[1]]]


def unlike_of(made, sides):
    """The gate that tells whether any bit of an out is unlike on both sides."""
    told = made.bit(("is", 0))
    for a, c in zip(sides[0].outs, sides[1].outs):
        told = made.bit(("or", told, made.bit(("xor", a, c))))
    return told


class Together:
    """Two flats of one sort, fed with the same ins."""

    def __init__(self, one, other):
        made = Gates()
        ins = {row[1]: [made.new(("in", row[1], k)) for k in range(row[2])] for row in rows_of(one, "in")}
        self.sides = [Side(flat, made, ins) for flat in (one, other)]
        self.unlike = unlike_of(made, self.sides)
        self.gate_rows = made.rows
        self.given = all_given(one)

    def told(self, standings):
        """For each standing, for each of all ins: (whether an out is unlike, what all boxes take)."""
        many = len(standings) * len(self.given)
        sources = {}
        for place, side in enumerate(self.sides):
            columns = held_columns(side.flat_rows, [standing[place] for standing in standings], self.given)
            for g in side.sources:
                path, k = side.sources[g]
                sources[g] = columns[path][k]
        bits = bits_of_gates(Cases(many, sources), self.gate_rows)
        unlike = bits_in(bits[self.unlike], many)
        one, other = [taken_by_cases(side.flat_rows, taken_bits(side, bits), many) for side in self.sides]
        told = list(zip(unlike, list(zip(one, other))))
        return [told[case:case + len(self.given)] for case in range(0, many, len(self.given))]

    def behind(self, clocks, standing, taken):
        """The standing behind a beat of some clocks."""
        return tuple([held_behind(side.boxes, clocks, held, late)
                      for side, held, late in zip(self.sides, standing, taken)])


def taken_bits(side, bits):
    """By the path of each box what its bits take, by the bits of gates."""
    return {path: [bits[g] for g in side.taken[path]] for path in side.taken}


class Search:
    """The standings that come, each by the least of the fewest beats that lead to it."""

    def __init__(self, one, other, most):
        self.together = Together(one, other)
        self.beating = all_beating(clocks_of_both(one, other))
        self.most = most
        # By each standing the one ahead of it and the beat between, None of the first one.
        self.came = {}
        # The first standing at which an out is unlike, and by which ins.
        self.parting = None
        level = self.anew([(first_standing(one, other), None)])
        while level:
            level = self.next_level(level)

    def anew(self, coming):
        """The standings that had not come before, of some with what leads to them."""
        told = []
        for standing, way in coming:
            if standing not in self.came:
                self.came[standing] = way
                told.append(standing)
                if len(self.came) > self.most:
                    raise TooMany(self.most)
        return told

    def next_level(self, level):
        """The standings that come first behind those of a level, by rising beats."""
        told = []
        for standing, cases in zip(level, self.together.told(level)):
            given = list(zip(self.together.given, cases))
            unlike = [ins for ins, (is_unlike, _) in given if is_unlike]
            if unlike and self.parting is None:
                self.parting = (standing, unlike[0])
            for clocks in self.beating:
                told.extend(self.anew([(self.together.behind(clocks, standing, taken), (standing, (clocks, ins)))
                                       for ins, (_, taken) in given]))
        return told

    def beats_to(self, standing):
        """The beats that lead to a standing."""
        told = []
        while self.came[standing] is not None:
            standing, beat = self.came[standing]
            told.append(beat)
        return tuple(told[::-1])


def parted(one, other, *, most=MOST):
    """("parted", beats), as few as can be, or ("alike", standings); Unlike, TooMany."""
    if not of_one_sort(one, other):
        raise Unlike()
    search = Search(one, other, most)
    if search.parting is None:
        return ("alike", tuple(sorted(search.came)))
    standing, ins = search.parting
    return ("parted", search.beats_to(standing) + (((), ins),))
