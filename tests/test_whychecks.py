"""Point 22, its end: whether a thing is a why."""

import random
import unittest

from tests.asking import FLATS, OTHERS, altered, flat_rows, mixed_beats, why_by_hand
from wiretongue.beats import wave_of
from wiretongue.whychecks import why_holds
from wiretongue.whys import why_of

C, NO = ("c",), ()
FLAT = flat_rows("clock c", "in x 1 c", "in z 1 c", "box b 1 c 0 xor b x", "wire w 1 and b z", "out y 2 c join z w")
BEATS = ((C, (1, 0)), (NO, (1, 1)), (C, (0, 1)), (C, (1, 1)))
# The out's second bit in beat 3: b and z.
RIGHT = (("b", 0, 0, 0), ("x", 0, 0, 1), ("b", 0, 1, 1), ("b", 0, 2, 1), ("x", 0, 2, 0), ("b", 0, 3, 1),
         ("z", 0, 3, 1), ("w", 0, 3, 1), ("y", 1, 3, 1))


def is_formed(flat, beats, thing):
    """Whether a thing is a tuple of steps of bits that are there."""
    bits = {(row[1], k): True for row in flat for k in range(row[2])}
    return thing.__class__ is tuple and all(
        step.__class__ is tuple and len(step) == 4 and step[0].__class__ is str
        and all(part.__class__ is int for part in step[1:]) and step[:2] in bits
        and 0 <= step[2] < len(beats) and step[3] in (0, 1) for step in thing)


class WhyHolds(unittest.TestCase):
    def holds(self, due, thing, flat=FLAT, beats=BEATS, path="y", k=1, n=3):
        self.assertIs(why_holds(flat, beats, path, k, n, thing), due, repr(thing)[:200])

    def test_right(self):
        self.holds(True, RIGHT)
        self.assertTrue(why_by_hand(FLAT, BEATS, "y", 1, 3, RIGHT))

    def test_more_steps_than_needed(self):
        more = (("x", 0, 1, 1), ("z", 0, 0, 0), ("w", 0, 0, 0), ("z", 0, 1, 1), ("w", 0, 1, 1))
        self.holds(True, more[:4] + RIGHT)
        # The wire of beat 1 needs a box that stands behind it.
        self.holds(False, more + RIGHT)
        self.holds(True, more[:4] + RIGHT[:3] + more[4:] + RIGHT[3:])
        for at in range(len(RIGHT)):
            self.holds(True, RIGHT[:at] + more[:2] + RIGHT[at:])
        self.holds(False, RIGHT + more[:1])
        self.holds(False, RIGHT + (("y", 0, 3, 1),))
        self.holds(True, RIGHT[:-1] + (("y", 0, 3, 1),) + RIGHT[-1:])

    def test_steps_of_later_beats(self):
        self.holds(True, (("x", 0, 0, 1), ("x", 0, 3, 1), ("z", 0, 2, 1)), path="z", k=0, n=2)
        self.holds(True, (("b", 0, 0, 0), ("x", 0, 1, 1), ("z", 0, 1, 1), ("x", 0, 0, 1)), path="x", k=0, n=0)

    def test_a_step_left_out(self):
        for at in range(len(RIGHT)):
            self.holds(False, RIGHT[:at] + RIGHT[at + 1:])

    def test_steps_exchanged(self):
        for at in range(len(RIGHT)):
            for other in range(at):
                steps = list(RIGHT)
                steps[at], steps[other] = steps[other], steps[at]
                self.holds(why_by_hand(FLAT, BEATS, "y", 1, 3, steps), tuple(steps))
        self.holds(False, RIGHT[::-1])
        self.holds(False, RIGHT[:7] + (RIGHT[8], RIGHT[7]))
        self.holds(True, (RIGHT[1], RIGHT[0]) + RIGHT[2:])

    def test_a_step_twice(self):
        for at in range(len(RIGHT)):
            for other in range(len(RIGHT) + 1):
                self.holds(False, RIGHT[:other] + (RIGHT[at],) + RIGHT[other:])

    def test_the_last_one_of_another_bit_beat_or_path(self):
        self.holds(False, RIGHT, k=0)
        self.holds(False, RIGHT, n=2)
        self.holds(False, RIGHT, path="w", k=0)
        self.holds(False, RIGHT, path="z", k=0)
        self.holds(False, RIGHT[:-1])
        self.holds(True, RIGHT[:-1], path="w", k=0)
        self.holds(True, RIGHT[:-2], path="z", k=0)
        self.holds(True, RIGHT[:-3], path="b", k=0)

    def test_a_worth_otherwise(self):
        for at, step in enumerate(RIGHT):
            self.holds(False, RIGHT[:at] + ((*step[:3], 1 - step[3]),) + RIGHT[at + 1:])
        self.holds(False, tuple((*step[:3], 1 - step[3]) for step in RIGHT))

    def test_what_is_not_there(self):
        for step in (("nobody", 0, 0, 0), ("", 0, 0, 0), ("c", 0, 0, 0), ("b", 1, 0, 0), ("b", -1, 0, 0), ("x", 1, 0, 0),
                     ("y", 2, 0, 0), ("b", 0, 4, 0), ("b", 0, -1, 0), ("x", 0, 4, 0), ("x", 0, -4, 1), ("x", 0, 0, 2),
                     ("x", 0, 0, -1), ("x", -1, 0, 1), ("x", 10 ** 39, 0, 0), ("x", 0, 10 ** 39, 0), (None, 0, 0, 0),
                     (0, 0, 0, 0), (("x",), 0, 0, 1), (["x"], 0, 0, 1), ({}, 0, 0, 1), ("x", "0", 0, 1), ("x", 0, "0", 1),
                     ("x", 0, 0, "1"), ("x", 0, 0, None), ("x", None, 0, 1), ("x", 0, None, 1), ("x", 0, 0, (1,)),
                     ("x", 0, 0), ("x", 0, 0, 1, 1), (), "x", None, 0):
            self.holds(False, (step, *RIGHT))
            self.holds(False, RIGHT[:-1] + (step,))
            self.holds(False, (step,))

    def test_truths_and_lists(self):
        for at, step in enumerate(RIGHT):
            for k in range(1, 4):
                if step[k] in (0, 1):
                    other = (*step[:k], bool(step[k]), *step[k + 1:])
                    self.holds(False, RIGHT[:at] + (other,) + RIGHT[at + 1:])
            self.holds(False, RIGHT[:at] + (list(step),) + RIGHT[at + 1:])
        self.holds(False, list(RIGHT))
        self.holds(False, {step: True for step in RIGHT})

    def test_no_steps_and_other_kinds(self):
        self.holds(False, ())
        for thing in OTHERS:
            self.holds(False, thing)
            self.holds(False, (thing,))
            self.holds(False, (thing, *RIGHT))
            for k in range(4):
                self.holds(False, RIGHT[:-1] + ((*RIGHT[-1][:k], thing, *RIGHT[-1][k + 1:]),))

    def test_for_another_in_or_other_clocks(self):
        for n, worths in ((0, (0, 0)), (2, (1, 1)), (3, (1, 0))):
            self.holds(False, RIGHT, beats=BEATS[:n] + ((BEATS[n][0], worths),) + BEATS[n + 1:])
        # What no step asks may be handed in otherwise.
        for n, worths in ((0, (1, 1)), (1, (0, 0)), (2, (0, 0)), (3, (0, 1))):
            self.holds(True, RIGHT, beats=BEATS[:n] + ((BEATS[n][0], worths),) + BEATS[n + 1:])
        for n, clocks in ((0, NO), (0, ("d",)), (1, C)):
            self.holds(False, RIGHT, beats=BEATS[:n] + ((clocks, BEATS[n][1]),) + BEATS[n + 1:])
        # In beat 2 the box keeps what it is, whether its clock beat or not, since x is 0.
        self.holds(True, RIGHT, beats=BEATS[:2] + ((NO, BEATS[2][1]),) + BEATS[3:])
        self.holds(True, RIGHT, beats=BEATS[:3] + ((("d",), (1, 1)),))
        self.holds(False, RIGHT, beats=BEATS[:3])

    def test_for_another_flat(self):
        other = flat_rows("clock c", "in x 1 c", "in z 1 c", "box b 1 c 1 xor b x", "wire w 1 and b z", "out y 2 c join z w")
        self.holds(False, RIGHT, flat=other)
        self.holds(False, RIGHT, flat=FLAT[:2] + (("box", "b", 1, "d", 0, FLAT[2][5]),) + FLAT[3:])
        self.holds(True, RIGHT, flat=FLAT[::-1][:3] + (FLAT[0], FLAT[1]))

    def test_a_box_needs_what_was_in_the_beat_ahead(self):
        flat = flat_rows("clock c", "in x 1 c", "box b 1 c 0 x")
        beats = ((C, (1,)), (NO, (1,)), (C, (1,)))
        asks = {"flat": flat, "beats": beats, "path": "b", "k": 0}
        self.holds(True, (("x", 0, 0, 1), ("b", 0, 1, 1)), n=1, **asks)
        self.holds(False, (("x", 0, 1, 1), ("b", 0, 1, 1)), n=1, **asks)
        self.holds(False, (("x", 0, 0, 1), ("b", 0, 2, 1)), n=2, **asks)
        self.holds(False, (("x", 0, 1, 1), ("b", 0, 2, 1)), n=2, **asks)
        self.holds(False, (("x", 0, 2, 1), ("b", 0, 2, 1)), n=2, **asks)
        self.holds(True, (("x", 0, 0, 1), ("b", 0, 1, 1), ("b", 0, 2, 1)), n=2, **asks)
        self.holds(True, (("b", 0, 0, 0),), n=0, **asks)
        self.holds(False, (("b", 0, 0, 1),), n=0, **asks)
        self.holds(False, (("x", 0, 0, 1), ("b", 0, 0, 1)), n=0, **asks)

    def test_a_wire_needs_what_is_in_its_beat(self):
        flat = flat_rows("clock c", "in x 1 c", "wire w 1 x")
        beats = ((C, (1,)), (C, (1,)))
        asks = {"flat": flat, "beats": beats, "path": "w", "k": 0, "n": 1}
        self.holds(True, (("x", 0, 1, 1), ("w", 0, 1, 1)), **asks)
        self.holds(False, (("x", 0, 0, 1), ("w", 0, 1, 1)), **asks)
        self.holds(False, (("x", 0, 0, 1), ("w", 0, 0, 1), ("w", 0, 1, 1)), **asks)

    def test_by_all_worths_of_the_other_bits(self):
        flat = flat_rows("clock c", "in x 2 c", "in z 2 c", "wire w 1 below x z", "wire v 2 pick bit 1 x z not z")
        beats = ((NO, (1, 2)), (NO, (2, 1)))
        asks = {"flat": flat, "beats": beats}
        # The highest bits tell, if they are unlike.
        self.holds(True, (("x", 1, 0, 0), ("z", 1, 0, 1), ("w", 0, 0, 1)), path="w", k=0, n=0, **asks)
        self.holds(False, (("x", 1, 0, 0), ("w", 0, 0, 1)), path="w", k=0, n=0, **asks)
        self.holds(False, (("x", 0, 0, 1), ("z", 0, 0, 0), ("z", 1, 0, 1), ("w", 0, 0, 1)), path="w", k=0, n=0, **asks)
        self.holds(True, (("z", 1, 1, 0), ("x", 1, 1, 1), ("w", 0, 1, 0)), path="w", k=0, n=1, **asks)
        self.holds(True, (("z", 0, 1, 1), ("x", 1, 1, 1), ("v", 0, 1, 1)), path="v", k=0, n=1, **asks)
        self.holds(False, (("z", 0, 1, 1), ("x", 0, 1, 0), ("v", 0, 1, 1)), path="v", k=0, n=1, **asks)
        self.holds(False, (("z", 1, 1, 0), ("x", 1, 1, 1), ("v", 0, 1, 1)), path="v", k=0, n=1, **asks)

    def test_nothing_needed(self):
        flat = flat_rows("clock c", "in x 2 c", "wire w 1 same x x", "box b 1 c 0 or bit 0 x not bit 0 x")
        beats = ((C, (2,)), (NO, (1,)))
        self.holds(True, (("w", 0, 1, 1),), flat, beats, "w", 0, 1)
        self.holds(False, (("w", 0, 1, 0),), flat, beats, "w", 0, 1)
        self.holds(True, (("b", 0, 1, 1),), flat, beats, "b", 0, 1)
        self.holds(False, (("b", 0, 1, 1),), flat, ((NO, (2,)), (NO, (1,))), "b", 0, 1)

    def test_each_thing_put_otherwise(self):
        for name, flat in FLATS.items():
            beats = mixed_beats(flat, 4, len(name))
            for row in flat[-2:]:
                for n in (0, 3):
                    why = why_of(flat, beats, row[1], 0, n)
                    for thing in altered(why):
                        due = is_formed(flat, beats, thing) and why_by_hand(flat, beats, row[1], 0, n, thing)
                        with self.subTest(name, thing=repr(thing)[:100]):
                            self.holds(due, thing, flat, beats, row[1], 0, n)

    def test_any_steps(self):
        let = {True: 0, False: 0}
        for seed in range(400):
            chance = random.Random(seed)
            name = chance.choice(sorted(FLATS))
            flat = FLATS[name]
            if not flat:
                continue
            beats = mixed_beats(flat, 3, seed)
            waves = {row[1]: wave_of(flat, beats, row[1]) for row in flat}
            steps = [(row[1], k, m, waves[row[1]][m] >> k & 1) for row in flat for k in range(row[2]) for m in range(3)]
            rank = {row[1]: ("in", "box", "wire", "out").index(row[0]) for row in flat}
            steps.sort(key=lambda step: (step[2], rank[step[0]], chance.random()))
            for _ in range(4):
                some = tuple(step for step in steps if chance.random() < 0.9)
                if some:
                    path, k, m, _ = some[-1]
                    due = why_by_hand(flat, beats, path, k, m, some)
                    let[due] += 1
                    self.holds(due, some, flat, beats, path, k, m)
        self.assertGreater(min(let.values()), 50)

    def test_by_names(self):
        self.assertIs(why_holds(thing=RIGHT, n=3, k=1, path="y", beats=BEATS, flat=FLAT), True)

    def test_soon(self):
        self.holds(False, (("x", 0, 0, 1),) * 24_000)
        self.holds(False, ((),) * 119_000)
        rows = ["clock c", "in x 1 c", "box ba 8 c 1 sum cut 7 ba join x num 6 0"]
        rows += [f"wire w{letter} 8 xor ba not ba" for letter in "abcdefghi"]
        flat = flat_rows(*rows)
        beats = tuple((C, (n % 2,)) for n in range(12))
        waves = {row[1]: wave_of(flat, beats, row[1]) for row in flat}
        steps = tuple((row[1], k, m, waves[row[1]][m] >> k & 1) for m in range(12) for row in flat for k in range(row[2]))
        self.holds(True, steps, flat, beats, *steps[-1][:3])
        self.assertGreater(len(steps), 900)


if __name__ == "__main__":
    unittest.main()
