"""Point 20, its end: whether beats part two flats, and whether standings show that none do."""

import random
import unittest
from itertools import product

from tests.asking import (
    ALIKE, OTHERS, UNLIKE, all_beats, all_ins, altered, behind, flat_rows, standing_of, standings_by_hand,
)
from tests.test_whole import Flats
from wiretongue.beats import told
from wiretongue.partchecks import alike_holds, parted_holds
from wiretongue.parting import parted

NO, C = (), ("c",)


def is_plain_as(thing, like):
    """Whether a thing is of just the classes that another one is of, part by part."""
    return repr(thing) == repr(like)


class PartedHolds(unittest.TestCase):
    ONE = (("in", "x", 2, "c"), ("in", "z", 1, "d"), ("box", "b", 2, "c", 0, ("name", "x")),
           ("box", "g", 1, "d", 1, ("name", "z")), ("out", "y", 2, ("name", "b")), ("out", "u", 1, ("name", "g")))
    # In a flat an out may hang on boxes of any clocks.
    OTHER = (("in", "x", 2, "c"), ("in", "z", 1, "d"), ("box", "g", 1, "d", 1, ("name", "z")),
             ("box", "n", 1, "m", 0, ("not", ("name", "n"))), ("box", "b", 2, "c", 0, ("name", "x")),
             ("out", "y", 2, ("xor", ("name", "b"), ("join", ("num", 1, 0), ("name", "n")))),
             ("out", "u", 1, ("name", "g")))
    # They part as soon as m has beaten once.
    BEATS = ((("m",), (0, 0)), (NO, (0, 0)))

    def holds(self, due, beats, one=None, other=None):
        one, other = one or self.ONE, other or self.OTHER
        self.assertIs(parted_holds(one, other, ("parted", beats)), due, repr(beats)[:200])
        self.assertIs(parted_holds(other, one, ("parted", beats)), due, repr(beats)[:200])

    def test_what_parted_tells(self):
        for one, other, beats in UNLIKE.values():
            self.holds(True, beats, one, other)
            self.assertIs(parted_holds(one, other, parted(one, other)), True)
        self.assertEqual(parted(self.ONE, self.OTHER)[0], "parted")
        self.holds(True, parted(self.ONE, self.OTHER)[1])
        self.holds(True, self.BEATS)

    def test_longer_ones(self):
        self.holds(True, ((("c", "d", "m"), (3, 1)), (NO, (2, 0))))
        self.holds(True, ((C, (3, 1)),) * 20 + self.BEATS)
        self.holds(True, self.BEATS * 3)
        self.holds(True, self.BEATS[:1] + ((("c", "d"), (3, 1)),) * 40)

    def test_a_last_beat_with_clocks(self):
        for clocks in (C, ("d",), ("m",), ("c", "d", "m"), ("c", "m")):
            self.holds(True, self.BEATS[:1] + ((clocks, (1, 1)),))

    def test_no_beats(self):
        self.holds(False, ())

    def test_by_whose_last_one_no_out_is_unlike(self):
        self.holds(False, ((NO, (0, 0)),))
        self.holds(False, self.BEATS[:1])
        # Though one was ahead: m beats twice.
        self.holds(False, ((("m",), (0, 0)), (("m",), (0, 0)), (NO, (0, 0))))
        self.holds(False, ((C, (0, 0)), (NO, (0, 0))))
        for one, other, beats in UNLIKE.values():
            if len(beats) > 1:
                self.holds(False, beats[:-1], one, other)

    def test_clocks(self):
        for clocks, due in ((("c", "m"), True), (("m", "c"), False), (("m", "m"), False), (("c", "m", "m"), False),
                            (("c", "c", "m"), False), (("d", "c", "m"), False), (("m", "z"), False), (("k",), False),
                            (("a", "m"), False), (["m"], False), ("m", False), (None, False), (("m", None), False),
                            (("m", ("n",)), False), (("m", ["n"]), False), (("m", {}), False), ((0,), False),
                            (({},), False), (({}, "m"), False), (("m", ""), False)):
            self.holds(due, ((clocks, (0, 0)), (NO, (0, 0))))

    def test_a_clock_of_neither_parts_nothing(self):
        one, other, beats = UNLIKE["behind one beat"]
        self.holds(True, beats, one, other)
        self.holds(False, (beats[0], (("d",), (0,))), one, other)
        self.holds(False, ((("c", "d"), (1,)), beats[1]), one, other)
        # A clock of which one has but wires and outs is none of its ins and boxes.
        flat = flat_rows("clock c", "clock e", "in x 1 c", "box b 1 c 0 x", "out y 1 c b")
        self.holds(False, ((("c", "e"), (1,)), beats[1]), flat, other)

    def test_clocks_of_either(self):
        one, other, beats = UNLIKE["a clock that only the other has"]
        self.holds(True, ((("d",), ()), (C, ()), (C, ()), (NO, ())), one, other)
        self.holds(True, ((("d",), ()), (C, ()), (C, ()), (("c", "d"), ())), one, other)
        one, other, beats = UNLIKE["one clock ahead of the other"]
        self.holds(True, ((("d",), (0,)), (NO, (0,))), one, other)

    def test_worths(self):
        first = self.BEATS[:1]
        for worths, due in (((3, 1), True), ((0, 0), True), ((4, 0), False), ((0, 2), False), ((-1, 0), False),
                            ((0, -1), False), ((0,), False), ((), False), ((0, 0, 0), False), ((True, 0), False),
                            ((0, False), False), ((None, 0), False), (("0", 0), False), ([0, 0], False), (None, False),
                            (((0,), 0), False), (([], 0), False), (({}, {}), False), ("00", False), (0, False),
                            ((10 ** 39, 0), False), ({0: 0, 1: 0}, False)):
            self.holds(due, (*first, (NO, worths)))
            self.holds(due, ((("m",), worths), *self.BEATS[1:]))

    def test_other_kinds(self):
        one, other, beats = UNLIKE["behind one beat"]
        right = ("parted", beats)
        for thing in (*OTHERS, list(right), ("parted",), (beats, "parted"), ("parted", list(beats)), (*right, 0),
                      ("alike", beats), ("part", beats), (["parted"], beats), (None, beats), ("parted", None), beats,
                      ("parted", {0: beats[0]}), ("parted", (list(beats[0]), beats[1])), ("parted", (beats[0], None)),
                      ("parted", (beats[0], ())), ("parted", (beats[0], (NO,))), ("parted", (beats[0], (NO, (0,), 0))),
                      ("parted", ((NO, NO), beats[1])), ("parted", "parted"), ("parted", (C, (0,))), (0, beats)):
            self.assertIs(parted_holds(one, other, thing), False, repr(thing)[:200])
        for thing in OTHERS:
            self.assertIs(parted_holds(one, other, ("parted", thing)), False)
            self.assertIs(parted_holds(one, other, (thing, beats)), False)
            self.assertIs(parted_holds(one, other, ("parted", (thing, *beats))), False)

    def test_flats_of_two_sorts(self):
        one, other, beats = UNLIKE["behind one beat"]
        for flat in (FLAT_OF_ANOTHER_OUT, FLAT_OF_ANOTHER_IN):
            self.holds(False, beats, one, flat)
            self.holds(False, beats, flat, other)

    def test_each_thing_put_otherwise(self):
        for name, (one, other, beats) in UNLIKE.items():
            beating = all_beats(one, other)
            for thing in altered(("parted", beats)):
                due = (thing.__class__ is tuple and len(thing) == 2 and thing[0] == "parted"
                       and thing[1].__class__ is tuple and len(thing[1]) > 0
                       and all(any(is_plain_as(beat, like) for like in beating) for beat in thing[1])
                       and told(one, thing[1])[-1] != told(other, thing[1])[-1])
                with self.subTest(name, thing=repr(thing)[:100]):
                    self.assertIs(parted_holds(one, other, thing), due)

    def test_alike_flats_are_parted_by_none(self):
        for one, other in ALIKE.values():
            beating = all_beats(one, other)
            for many in (1, 2):
                for beats in product(beating, repeat=many):
                    self.holds(False, beats, one, other)

    def test_by_names(self):
        one, other, beats = UNLIKE["behind one beat"]
        self.assertIs(parted_holds(thing=("parted", beats), other=other, one=one), True)

    def test_soon(self):
        one, other, beats = UNLIKE["behind one beat"]
        self.holds(True, beats * 2000, one, other)
        self.holds(False, beats * 2000 + ((C, (0,)),) * 2, one, other)
        self.holds(False, ((),) * 119_000, one, other)
        self.holds(False, ((("c",) * 119_000, (1,)), beats[1]), one, other)


FLAT_OF_ANOTHER_OUT = flat_rows("clock c", "in x 1 c", "box b 1 c 0 x", "out z 1 c b")
FLAT_OF_ANOTHER_IN = flat_rows("clock c", "in z 1 c", "box b 1 c 0 z", "out y 1 c b")


def alike_by_hand(one, other, thing):
    """What alike_holds is to tell of standings so formed as they should be, reckoned by all words of the document."""
    if list(thing) != sorted(set(thing)) or standing_of(one, other) not in thing:
        return False
    for standing in thing:
        for beat in all_beats(one, other):
            told_of = [behind(flat, worths, beat) for flat, worths in zip((one, other), standing)]
            if told_of[0][0] != told_of[1][0] or (told_of[0][1], told_of[1][1]) not in thing:
                return False
    return True


def all_standings(*flats):
    """All pairs of worths that boxes may hold."""
    sides = [list(product(*[range(1 << row[2]) for row in flat if row[0] == "box"])) for flat in flats]
    return list(product(*sides))


class AlikeHolds(unittest.TestCase):
    def holds(self, due, one, other, standings):
        self.assertIs(alike_holds(one, other, ("alike", standings)), due, repr(standings)[:200])

    def test_what_parted_tells(self):
        for name, (one, other) in ALIKE.items():
            with self.subTest(name):
                self.assertIs(alike_holds(one, other, parted(one, other)), True)
                self.assertIs(alike_holds(other, one, parted(other, one)), True)

    def test_one_left_out(self):
        for name, (one, other) in ALIKE.items():
            standings = parted(one, other)[1]
            for k in range(len(standings)):
                with self.subTest(name, k=k):
                    self.holds(False, one, other, standings[:k] + standings[k + 1:])
            self.holds(False, one, other, ())

    def test_not_the_first_one(self):
        one = flat_rows("clock c", "box b 1 c 0 num 1 1", "out y 1 c bit 0 b")
        self.holds(True, one, one, (((0,), (0,)), ((1,), (1,))))
        # These come of one another, but the first one isn't among them.
        self.holds(False, one, one, (((1,), (1,)),))

    def test_more_than_come(self):
        one = flat_rows("clock c", "in x 1 c", "box b 2 c 0 and b num 2 1", "out y 1 c x")
        other = flat_rows("clock c", "in x 1 c", "out y 1 c not not x")
        self.assertEqual(parted(one, other), ("alike", (((0,), ()),)))
        self.holds(True, one, other, (((0,), ()), ((1,), ())))
        # Of 2 comes 0, of 3 comes 1.
        self.holds(True, one, other, (((0,), ()), ((2,), ())))
        self.holds(False, one, other, (((0,), ()), ((3,), ())))
        self.holds(True, one, other, (((0,), ()), ((1,), ()), ((3,), ())))
        self.holds(True, one, other, (((0,), ()), ((1,), ()), ((2,), ()), ((3,), ())))

    def test_one_at_which_an_out_is_unlike(self):
        one = flat_rows("clock c", "in x 1 c", "box b 2 c 0 b", "out y 1 c and x same b num 2 3")
        other = flat_rows("clock c", "in x 1 c", "out y 1 c num 1 0")
        self.holds(True, one, other, (((0,), ()),))
        self.holds(True, one, other, (((0,), ()), ((2,), ())))
        self.holds(False, one, other, (((0,), ()), ((3,), ())))
        self.holds(False, one, other, (((0,), ()), ((1,), ()), ((2,), ()), ((3,), ())))

    def test_beats_of_each_clock_alone_and_together(self):
        one = flat_rows("clock c", "clock d", "box a 1 c 0 num 1 1", "box b 1 d 0 num 1 1", "out y 1 c num 1 0")
        other = flat_rows("clock c", "clock d", "out y 1 c num 1 0")
        all_four = tuple(((a, b), ()) for a in (0, 1) for b in (0, 1))
        self.holds(True, one, other, all_four)
        for k in range(4):
            self.holds(False, one, other, all_four[:k] + all_four[k + 1:])

    def test_each_ins(self):
        one = flat_rows("clock c", "in x 2 c", "in z 1 c", "box b 1 c 0 or b and z same x num 2 2", "out y 1 c num 1 0")
        other = flat_rows("clock c", "in x 2 c", "in z 1 c", "out y 1 c num 1 0")
        self.holds(True, one, other, (((0,), ()), ((1,), ())))
        self.holds(False, one, other, (((0,), ()),))
        other = flat_rows("clock c", "in x 2 c", "in z 1 c", "out y 1 c and z same x num 2 2")
        self.holds(False, one, other, (((0,), ()), ((1,), ())))

    def test_rising(self):
        one, other = ALIKE["turned about"]
        self.holds(True, one, other, (((0,), (1,)), ((1,), (0,))))
        self.holds(False, one, other, (((1,), (0,)), ((0,), (1,))))
        self.holds(False, one, other, (((0,), (1,)), ((0,), (1,)), ((1,), (0,))))
        self.holds(False, one, other, (((0,), (1,)), ((1,), (0,)), ((1,), (0,))))
        self.holds(False, one, other, (((0,), (1,)), ((1,), (0,)), ((0,), (1,))))

    def test_sides_exchanged(self):
        one, other = ALIKE["a box more"]
        standings = parted(one, other)[1]
        self.holds(False, other, one, standings)
        self.holds(False, one, other, tuple(sorted(standing[::-1] for standing in standings)))

    def test_worths(self):
        one = flat_rows("clock c", "box a 2 c 1 a", "box b 1 c 0 b", "out y 1 c num 1 0")
        other = flat_rows("clock c", "box m 2 c 3 m", "out y 1 c num 1 0")
        first = ((1, 0), (3,))
        self.holds(True, one, other, (first,))
        for ahead, due in ((((0, 0), (0,)), True), (((0, 0), (-1,)), False), (((-1, 0), (0,)), False),
                           (((0, -1), (0,)), False), (((0, 2), (0,)), False), (((0, 0), (4,)), False),
                           (((0,), (0,)), False), (((0, 0, 0), (0,)), False), (((0, 0), ()), False),
                           (((0, 0), (0, 0)), False), (((False, 0), (0,)), False), (((0, False), (0,)), False),
                           (((0, 0), (False,)), False), (([0, 0], (0,)), False), (((0, 0), [0]), False),
                           ([(0, 0), (0,)], False), (((0, 0),), False), (((0, 0), (0,), ()), False),
                           (((None, 0), (0,)), False), ((("0", 0), (0,)), False), (None, False), (((), ()), False),
                           ("", False), (0, False), (((0, 0), {0: 0}), False), (((0, 0), (10 ** 39,)), False)):
            self.holds(due, one, other, (ahead, first))
        for late, due in ((((3, 1), (3,)), True), (((4, 0), (3,)), False), (((3, 2), (3,)), False),
                          (((3, 1), (4,)), False), (((True, True), (3,)), False)):
            self.holds(due, one, other, (first, late))
        self.holds(False, one, other, (((True, 0), (3,)),))
        self.holds(False, one, other, (((1, False), (3,)),))

    def test_other_kinds(self):
        one, other = ALIKE["turned about"]
        standings = parted(one, other)[1]
        right = ("alike", standings)
        for thing in (*OTHERS, list(right), ("alike",), (standings, "alike"), ("alike", list(standings)), (*right, 0),
                      ("parted", standings), ("alik", standings), (["alike"], standings), (None, standings),
                      ("alike", None), standings, ("alike", {0: standings[0]}), ("alike", "alike"), (1, standings)):
            self.assertIs(alike_holds(one, other, thing), False, repr(thing)[:200])
        for thing in OTHERS:
            self.assertIs(alike_holds(one, other, ("alike", thing)), False)
            self.assertIs(alike_holds(one, other, (thing, standings)), False)
            self.assertIs(alike_holds(one, other, ("alike", (*standings, thing))), False)
            self.assertIs(alike_holds(one, other, ("alike", (thing, *standings))), False)

    def test_flats_of_two_sorts(self):
        flat = flat_rows("clock c", "in x 1 c", "box b 1 c 0 x", "out y 1 c b")
        standings = (((0,), (0,)), ((1,), (1,)))
        self.holds(True, flat, flat, standings)
        for other in (FLAT_OF_ANOTHER_OUT, FLAT_OF_ANOTHER_IN):
            self.holds(False, flat, other, standings)
            self.holds(False, other, flat, standings)

    def test_flats_that_beats_part(self):
        for name, (one, other, beats) in UNLIKE.items():
            came, _ = standings_by_hand(one, other)
            with self.subTest(name):
                self.holds(False, one, other, tuple(sorted(came)))
                self.holds(False, one, other, tuple(all_standings(one, other)))
                self.holds(False, one, other, (standing_of(one, other),))
                self.assertIs(alike_holds(one, other, ("parted", beats)), False)

    def test_each_thing_put_otherwise(self):
        for name, (one, other) in ALIKE.items():
            if len(parted(one, other)[1]) > 8:
                continue
            formed = all_standings(one, other)
            for thing in altered(parted(one, other)):
                due = (thing.__class__ is tuple and len(thing) == 2 and thing[0] == "alike"
                       and thing[1].__class__ is tuple
                       and all(any(is_plain_as(standing, like) for like in formed) for standing in thing[1])
                       and alike_by_hand(one, other, thing[1]))
                with self.subTest(name, thing=repr(thing)[:100]):
                    self.assertIs(alike_holds(one, other, thing), due)

    def test_any_standings(self):
        let = {True: 0, False: 0}
        for seed in range(200):
            chance = random.Random(seed)
            one = Flats(seed).flat()
            if sum(row[2] for row in one if row[0] == "in") > 2 or sum(row[2] for row in one if row[0] == "box") > 3:
                continue
            other = tuple((*row[:3], ("not", ("not", row[3]))) if row[0] == "out" else row for row in one)
            formed = all_standings(one, other)
            alike = [standing for standing in formed if standing[0] == standing[1]]
            for _ in range(6):
                sort = alike if chance.random() < 0.7 else formed
                some = tuple(sorted(chance.sample(sort, chance.randint(max(1, len(sort) - 2), len(sort)))))
                due = alike_by_hand(one, other, some)
                let[due] += 1
                self.holds(due, one, other, some)
        self.assertGreater(min(let.values()), 20)

    def test_by_names(self):
        one, other = ALIKE["turned about"]
        self.assertIs(alike_holds(thing=parted(one, other), other=other, one=one), True)

    def test_soon(self):
        seven = flat_rows("clock c", "in x 3 c", "box n 7 c 0 cut 7 sum n x", "out y 1 c bit 6 n")
        standings = tuple(((n,), (n,)) for n in range(128))
        self.holds(True, seven, seven, standings)
        self.holds(False, seven, seven, standings[:-1])
        none = flat_rows("clock c", "in x 3 c", "out y 1 c bit 6 sum num 7 0 x")
        self.holds(False, none, none, (((), ()),) * 119_000)
        self.holds(False, none, none, (((0,) * 119_000, ()),))
        self.assertEqual(len(all_ins(none)), 8)


if __name__ == "__main__":
    unittest.main()
