"""Two flats that are told the same beats, and the standings that come of these."""

from wiretongue.flatrows import rows_of
from wiretongue.worths import bits_in, column_of, worths_of


def of_one_sort(one, other):
    """Whether rows of ins are alike, and paths and widths of outs."""
    outs, others = [[row[1:3] for row in rows_of(flat, "out")] for flat in (one, other)]
    return rows_of(one, "in") == rows_of(other, "in") and outs == others


def clocks_of_both(one, other):
    """The clocks of either's ins and boxes, rising."""
    return sorted({row[3]: True for row in one + other if row[0] in ("in", "box")})


def all_beating(clocks):
    """All rising tuples of some clocks that rise, rising."""
    told = [()]
    for clock in clocks:
        told = told + [(*ahead, clock) for ahead in told]
    return sorted(told)


def all_given(flat):
    """All that may be handed to the ins of a flat, rising."""
    told = [()]
    for row in rows_of(flat, "in"):
        told = [(*ahead, worth) for ahead in told for worth in range(1 << row[2])]
    return told


def first_standing(one, other):
    """What the boxes of both hold at first."""
    return tuple([tuple([row[4] for row in rows_of(flat, "box")]) for flat in (one, other)])


def columns_of(worths, width):
    """The columns of bits of what is so wide, by its worths by cases."""
    return [column_of([worth >> k & 1 for worth in worths]) for k in range(width)]


def held_columns(flat, held, given):
    """By the path of each in and box its columns: whatever boxes hold with all that is given."""
    told = {}
    for place, row in enumerate(rows_of(flat, "in")):
        told[row[1]] = columns_of([worths[place] for _ in held for worths in given], row[2])
    for place, row in enumerate(rows_of(flat, "box")):
        told[row[1]] = columns_of([worths[place] for worths in held for _ in given], row[2])
    return told


def taken_by_cases(flat, taken, many):
    """By cases the worths that the boxes take, by the columns of these."""
    worths = [worths_of([bits_in(column, many) for column in taken[row[1]]]) for row in rows_of(flat, "box")]
    return [tuple([told[case] for told in worths]) for case in range(many)]
