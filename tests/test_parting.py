"""Point 20: two flats held together."""

import random
import unittest
from itertools import product

from tests.asking import (
    ALIKE, FLATS, UNLIKE, all_beats, flat_rows, is_plain, refused, standing_of, standings_by_hand,
)
from tests.test_whole import Flats
from wiretongue.beats import told
from wiretongue.errors import TooMany, Unlike, WireError
from wiretongue.kinds import MOST
from wiretongue.partchecks import alike_holds, parted_holds
from wiretongue.parting import parted

SEVEN = flat_rows("clock c", "in x 1 c", "box n 7 c 0 cut 7 sum n x", "out y 1 c bit 6 n")
NOUGHT = flat_rows("clock c", "in x 1 c", "out y 1 c num 1 0")


def least_by_hand(one, other, longest):
    """The fewest and least beats by whose last one an out is unlike, all tried in order."""
    beats = all_beats(one, other)
    for many in range(1, longest + 1):
        for tried in product(beats, repeat=many):
            if told(one, tried)[-1] != told(other, tried)[-1]:
                return tried
    return None


class Parted(unittest.TestCase):
    def tells(self, one, other, thing, **most):
        said = parted(one, other, **most)
        self.assertTrue(is_plain(said))
        self.assertEqual(repr(said), repr(thing))

    def test_unlike_flats(self):
        for name, (one, other, beats) in UNLIKE.items():
            with self.subTest(name):
                self.tells(one, other, ("parted", beats))
                self.tells(other, one, ("parted", beats))
                self.assertIs(parted_holds(one, other, ("parted", beats)), True)
                self.assertNotEqual(told(one, beats)[-1], told(other, beats)[-1])
                self.assertEqual(told(one, beats)[:-1], told(other, beats)[:-1])

    def test_unlike_flats_by_all_beats_in_order(self):
        for name, (one, other, beats) in UNLIKE.items():
            with self.subTest(name):
                self.assertEqual(least_by_hand(one, other, len(beats)), beats)

    def test_alike_flats(self):
        for name, (one, other) in ALIKE.items():
            came, unlike = standings_by_hand(one, other)
            with self.subTest(name):
                self.assertEqual(unlike, set())
                self.tells(one, other, ("alike", tuple(sorted(came))))
                self.tells(other, one, ("alike", tuple(sorted(standing[::-1] for standing in came))))
                self.assertIn(standing_of(one, other), parted(one, other)[1])
                self.assertIs(alike_holds(one, other, parted(one, other)), True)

    def test_alike_with_itself(self):
        for name, flat in FLATS.items():
            came, _ = standings_by_hand(flat, flat)
            with self.subTest(name):
                self.tells(flat, flat, ("alike", tuple(sorted(came))))

    def test_few_told_by_hand(self):
        one, other = ALIKE["turned about"]
        self.tells(one, other, ("alike", (((0,), (1,)), ((1,), (0,)))))
        one, other = ALIKE["a box more"]
        self.tells(one, other, ("alike", (((0,), (0, 0)), ((0,), (1, 0)), ((0,), (2, 0)), ((1,), (0, 1)),
                                         ((1,), (1, 1)))))
        one, other = ALIKE["no boxes"]
        self.tells(one, other, ("alike", (((), ()),)))
        one, other = ALIKE["stuck"]
        self.tells(one, other, ("alike", (((2,), ()),)))

    def test_the_last_beat_is_of_no_clock(self):
        for one, other, _ in UNLIKE.values():
            self.assertEqual(parted(one, other)[1][-1][0], ())

    def test_any_flats(self):
        sorts = {"parted": 0, "alike": 0}
        for seed in range(400):
            one = Flats(seed).flat()
            other = self.another(random.Random(seed), one)
            if sum(row[2] for row in one if row[0] == "in") > 3:
                continue
            came, unlike = standings_by_hand(one, other)
            said = parted(one, other, most=len(came))
            sorts[said[0]] += 1
            with self.subTest(seed):
                self.assertEqual(said[0], "parted" if unlike else "alike")
                self.assertEqual(refused(TooMany, self.with_most, one, other, len(came) - 1).most, len(came) - 1)
                if said[0] == "alike":
                    self.assertEqual(said[1], tuple(sorted(came)))
                    self.assertIs(alike_holds(one, other, said), True)
                else:
                    self.assertIs(parted_holds(one, other, said), True)
                    if len(all_beats(one, other)) ** len(said[1]) < 3000:
                        self.assertEqual(said[1], least_by_hand(one, other, len(said[1])))
        self.assertGreater(min(sorts.values()), 10)

    def with_most(self, one, other, most):
        return parted(one, other, most=most)

    def another(self, chance, flat):
        """A flat of the same sort with an e put otherwise."""
        rows = list(flat)
        for k in chance.sample(range(len(rows)), min(2, len(rows))):
            if rows[k][0] == "in":
                continue
            alike = ("xor", rows[k][-1], ("num", rows[k][2], 0))
            unlike = ("xor", rows[k][-1], ("num", rows[k][2], 1))
            rows[k] = (*rows[k][:-1], chance.choice((alike, ("not", ("not", alike)), unlike)))
        return tuple(rows)


class Sorts(unittest.TestCase):
    def unlike(self, one, other):
        for flats in ((one, other), (other, one)):
            refusal = refused(Unlike, parted, *flats)
            self.assertIsInstance(refusal, WireError)
            for thing in (("alike", (standing_of(*flats),)), ("parted", ((NO, ()),)), ("parted", ((NO, (0,)),)),
                          ("parted", ((NO, (0, 0)),))):
                self.assertIs(alike_holds(*flats, thing), False)
                self.assertIs(parted_holds(*flats, thing), False)

    def test_ins(self):
        x = ("in", "x", 1, "c")
        for ins in ((), (("in", "z", 1, "c"),), (("in", "x", 2, "c"),), (("in", "x", 1, "d"),),
                    (x, ("in", "z", 1, "c")), (("in", "z", 1, "c"), x)):
            self.unlike((x,), ins)
        z = ("in", "z", 1, "c")
        self.unlike((x, z), (z, x))

    def test_outs(self):
        y = ("out", "y", 1, ("num", 1, 0))
        z = ("out", "z", 1, ("num", 1, 0))
        for outs in ((), (z,), (("out", "y", 2, ("num", 2, 0)),), (y, z), (z, y)):
            self.unlike((y,), outs)
        self.unlike((y, z), (z, y))

    def test_unlike_is_ahead_of_too_many(self):
        refused(Unlike, lambda: parted(SEVEN, FLATS["nothing"], most=1))
        self.assertEqual(refused(TooMany, lambda: parted(SEVEN, SEVEN, most=1)).most, 1)

    def test_the_order_of_other_rows_is_no_matter(self):
        one = flat_rows("clock c", "in x 1 c", "box a 1 c 0 x", "box b 1 c 0 a", "wire w 1 b", "out y 1 c w",
                        "in z 1 c", "out u 1 c z")
        for order in ((0, 5, 4, 6, 3, 2, 1), (4, 6, 0, 1, 5, 2, 3), (0, 2, 1, 4, 6, 3, 5)):
            other = tuple(one[k] for k in order)
            self.assertEqual(parted(one, other)[0], "alike")

    def test_paths_of_wires_and_boxes(self):
        one = flat_rows("clock c", "in x 1 c", "box a 1 c 0 x", "wire w 1 a", "out y 1 c w")
        other = flat_rows("clock c", "in x 1 c", "box w 1 c 0 x", "wire a 1 w", "out y 1 c a")
        self.assertEqual(parted(one, other), ("alike", (((0,), (0,)), ((1,), (1,)))))

    def test_a_path_that_is_a_box_here_and_a_wire_there(self):
        one = flat_rows("clock c", "in x 1 c", "box a 1 c 0 x", "out y 1 c a")
        other = flat_rows("clock c", "in x 1 c", "wire a 1 x", "out y 1 c a")
        self.assertEqual(parted(one, other), ("parted", ((NO, (1,)),)))


NO = ()


class Many(unittest.TestCase):
    def many(self, one, other, many):
        """That so many standings come."""
        for most in (many, many + 1, many + 1000):
            parted(one, other, most=most)
        for most in (many - 1, many // 2, 1, 0):
            if most < many:
                refusal = refused(TooMany, lambda: parted(one, other, most=most))
                self.assertEqual(repr(refusal.most), repr(most))
                self.assertIsInstance(refusal, WireError)

    def test_a_hundred_and_twenty_eight(self):
        self.many(SEVEN, SEVEN, 128)
        self.assertEqual(parted(SEVEN, SEVEN, most=128), ("alike", tuple(((n,), (n,)) for n in range(128))))
        self.assertEqual(refused(TooMany, parted, SEVEN, SEVEN).most, MOST)

    def test_ahead_of_parted(self):
        # What comes behind an unlike out is counted too: y is unlike at 64, the rest comes behind.
        self.many(SEVEN, NOUGHT, 128)
        beats = parted(SEVEN, NOUGHT, most=128)[1]
        self.assertEqual(beats, ((("c",), (1,)),) * 64 + (((), (0,)),))
        at_once = flat_rows("clock c", "in x 1 c", "box n 7 c 0 cut 7 sum n x", "out y 1 c num 1 1")
        self.many(at_once, NOUGHT, 128)
        self.assertEqual(parted(at_once, NOUGHT, most=128), ("parted", (((), (0,)),)))

    def test_the_first_one_is_counted(self):
        one = flat_rows("clock c", "in x 1 c", "box b 1 c 0 b", "out y 1 c x")
        self.many(one, one, 1)
        self.assertEqual(refused(TooMany, lambda: parted(one, one, most=0)).most, 0)
        other = flat_rows("clock c", "in x 1 c", "out y 1 c not x")
        self.assertEqual(refused(TooMany, lambda: parted(one, other, most=0)).most, 0)

    def test_most_left_out(self):
        self.assertEqual(MOST, 100)
        hundred = flat_rows("clock c", "box n 7 c 0 pick same n num 7 99 num 7 0 cut 7 sum n num 1 1", "out y 1 c num 1 0")
        self.assertEqual(len(parted(hundred, hundred)[1]), 100)
        more = flat_rows("clock c", "box n 7 c 0 pick same n num 7 100 num 7 0 cut 7 sum n num 1 1", "out y 1 c num 1 0")
        self.assertEqual(refused(TooMany, parted, more, more).most, 100)
        self.assertEqual(len(parted(more, more, most=101)[1]), 101)

    def test_how_it_is_asked(self):
        with self.assertRaises(TypeError):
            parted(NOUGHT, NOUGHT, 100)
        self.assertEqual(parted(other=NOUGHT, one=NOUGHT, most=1), ("alike", (((), ()),)))
        self.assertEqual(parted(NOUGHT, NOUGHT), parted(NOUGHT, NOUGHT))

    def test_both_exchanged(self):
        for one, other in ALIKE.values():
            self.assertEqual(sorted(standing[::-1] for standing in parted(one, other)[1]),
                             list(parted(other, one)[1]))

    def test_boxes_exchange_at_once(self):
        one = flat_rows("clock c", "box a 1 c 0 b", "box b 1 c 1 a", "out y 2 c join a b")
        other = flat_rows("clock c", "box m 1 c 0 not m", "out y 2 c join m not m")
        self.assertEqual(parted(one, other), ("alike", (((0, 1), (0,)), ((1, 0), (1,)))))

    def test_soon(self):
        leaves = [f"bit {k} n" for k in range(7)] + ["x"]
        words = ("xor", "and", "or", "xor", "same", "below")

        def deep(within, k):
            if within == 6:
                return leaves[k % 8]
            return f"{words[within]} {deep(within + 1, 3 * k + 1)} {deep(within + 1, 5 * k + 2)}"

        rows = [f"wire w{'abcdefghijklmnopqrst'[k]} 1 {deep(0, k)}" for k in range(20)]
        one = flat_rows("clock c", "in x 1 c", "box n 7 c 0 cut 7 sum n num 1 1", *rows, "out y 1 c xor wa wt")
        other = tuple((*row[:3], ("not", ("not", row[3]))) if row[0] == "out" else row for row in one[::-1])
        self.assertEqual(parted(one, other, most=128)[0], "alike")
        self.assertIs(alike_holds(one, other, parted(one, other, most=128)), True)


if __name__ == "__main__":
    unittest.main()
