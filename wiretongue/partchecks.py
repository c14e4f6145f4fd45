"""Whether beats part two flats, and whether standings show that none do."""

from wiretongue.beats import told
from wiretongue.bitwise import bits_by_path, bits_taken
from wiretongue.flatrows import held_behind, rows_of
from wiretongue.pairs import all_beating, all_given, clocks_of_both, first_standing, held_columns, of_one_sort
from wiretongue.pairs import taken_by_cases
from wiretongue.wholes import is_tuple, is_whole
from wiretongue.worths import Cases


def are_worths(rows, thing):
    """Whether a thing is a tuple of a worth of each row."""
    return is_tuple(thing, len(rows)) and all([is_whole(worth, 1 << row[2]) for row, worth in zip(rows, thing)])


def are_rising(thing):
    """Whether each part is above the one ahead."""
    return all([ahead < part for ahead, part in zip(thing, thing[1:])])


def is_beat(clocks, ins, thing):
    """Whether a thing is a beat of some of these clocks, with a worth of each in."""
    if not is_tuple(thing, 2) or not isinstance(thing[0], tuple):
        return False
    if not all([clock in clocks for clock in thing[0]]) or not are_rising(thing[0]):
        return False
    return are_worths(ins, thing[1])


def parted_holds(one, other, thing):
    """Whether a thing is ("parted", beats), by whose last one an out of two flats is unlike."""
    if not of_one_sort(one, other) or not is_tuple(thing, 2) or thing[0] != "parted":
        return False
    beats = thing[1]
    if not isinstance(beats, tuple) or beats == ():
        return False
    clocks = clocks_of_both(one, other)
    ins = rows_of(one, "in")
    if not all([is_beat(clocks, ins, beat) for beat in beats]):
        return False
    return told(one, beats)[-1] != told(other, beats)[-1]


def are_standings(one, other, thing):
    """Whether a thing is a rising tuple of standings of two flats, the first one among them."""
    if not isinstance(thing, tuple):
        return False
    boxes, others = rows_of(one, "box"), rows_of(other, "box")
    if not all([is_tuple(part, 2) and are_worths(boxes, part[0]) and are_worths(others, part[1]) for part in thing]):
        return False
    return are_rising(thing) and first_standing(one, other) in thing


def outs_and_taken(flat, held, given):
    """The columns of the bits of outs, and by cases what boxes take, by what they hold."""
    many = len(held) * len(given)
    maker = Cases(many, {})
    bits = bits_by_path(maker, flat, held_columns(flat, held, given))
    taken = bits_taken(maker, flat, bits)
    return ([bits[row[1]] for row in rows_of(flat, "out")], taken_by_cases(flat, taken, many))


def all_among(one, other, standings, given, taken):
    """Whether each standing that comes of one by any beat is among them."""
    boxes, others = rows_of(one, "box"), rows_of(other, "box")
    # A clock that no box has brings nothing.
    beating = all_beating(sorted({row[3]: True for row in boxes + others}))
    among = {standing: True for standing in standings}
    for case, (late, later) in enumerate(zip(taken[0], taken[1])):
        held, holding = standings[case // len(given)]
        for clocks in beating:
            behind = (held_behind(boxes, clocks, held, late), held_behind(others, clocks, holding, later))
            if behind not in among:
                return False
    return True


def alike_holds(one, other, thing):
    """Whether a thing is ("alike", standings) of two flats, such that no beats part them."""
    if not of_one_sort(one, other) or not is_tuple(thing, 2) or thing[0] != "alike":
        return False
    standings = thing[1]
    if not are_standings(one, other, standings):
        return False
    given = all_given(one)
    outs, taken = outs_and_taken(one, [standing[0] for standing in standings], given)
    others, later = outs_and_taken(other, [standing[1] for standing in standings], given)
    return outs == others and all_among(one, other, standings, given, (taken, later))
