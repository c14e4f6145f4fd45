"""Point 22: why a bit of a wave is as it is."""

import random
import unittest

from tests.asking import FLATS, OTHERS, flat_rows, is_plain, mixed_beats, names_in, refused, why_by_hand
from tests.test_whole import Flats
from wiretongue.beats import wave_of
from wiretongue.errors import NoPath
from wiretongue.whychecks import why_holds
from wiretongue.whys import why_of

C, NO = ("c",), ()
BEATS = ((C, (1,)), (NO, (0,)), (C, (1,)), (C, (0,)))


def narrow(flat):
    """Whether the names in each e are of at most eight bits together."""
    widths = {row[1]: row[2] for row in flat}
    return all(sum(widths[path] for path in names_in(row[-1])) <= 8 for row in flat if row[0] != "in")


class WhyOf(unittest.TestCase):
    def asks(self, flat, beats, path, k, n):
        """What is told, when it is a why none of whose steps can be left out."""
        why = why_of(flat, beats, path, k, n)
        self.assertTrue(is_plain(why))
        self.assertTrue(all(step.__class__ is tuple and len(step) == 4 for step in why))
        self.assertEqual(why[-1], (path, k, n, wave_of(flat, beats, path)[n] >> k & 1))
        self.assertTrue(why_by_hand(flat, beats, path, k, n, why), why)
        self.assertIs(why_holds(flat, beats, path, k, n, why), True)
        for at in range(len(why)):
            less = why[:at] + why[at + 1:]
            self.assertFalse(why_by_hand(flat, beats, path, k, n, less), (why, at))
            self.assertIs(why_holds(flat, beats, path, k, n, less), False)
        return why

    def tells(self, flat, beats, path, k, n, *whys):
        self.assertIn(repr(self.asks(flat, beats, path, k, n)), [repr(why) for why in whys])

    def test_an_in(self):
        flat = flat_rows("clock c", "in x 2 c", "in z 1 c")
        beats = ((NO, (2, 1)), (C, (1, 0)))
        for path, k, n, b in (("x", 0, 0, 0), ("x", 1, 0, 1), ("x", 0, 1, 1), ("x", 1, 1, 0), ("z", 0, 0, 1),
                              ("z", 0, 1, 0)):
            self.tells(flat, beats, path, k, n, ((path, k, n, b),))

    def test_a_wire_and_an_out(self):
        flat = flat_rows("clock c", "in x 1 c", "wire w 1 not x", "out y 2 c join w x")
        self.tells(flat, BEATS, "w", 0, 0, (("x", 0, 0, 1), ("w", 0, 0, 0)))
        self.tells(flat, BEATS, "w", 0, 1, (("x", 0, 1, 0), ("w", 0, 1, 1)))
        self.tells(flat, BEATS, "y", 0, 1, (("x", 0, 1, 0), ("w", 0, 1, 1), ("y", 0, 1, 1)))
        self.tells(flat, BEATS, "y", 1, 2, (("x", 0, 2, 1), ("y", 1, 2, 1)))

    def test_a_box_at_first(self):
        flat = flat_rows("clock c", "in x 1 c", "box b 3 c 5 cut 3 sum b x")
        for k, b in enumerate((1, 0, 1)):
            self.tells(flat, BEATS, "b", k, 0, (("b", k, 0, b),))

    def test_a_box_whose_clock_beat(self):
        flat = flat_rows("clock c", "in x 1 c", "box b 1 c 0 x")
        self.tells(flat, BEATS, "b", 0, 1, (("x", 0, 0, 1), ("b", 0, 1, 1)))
        self.tells(flat, BEATS, "b", 0, 3, (("x", 0, 2, 1), ("b", 0, 3, 1)))

    def test_a_box_whose_clock_did_not_beat(self):
        flat = flat_rows("clock c", "in x 1 c", "box b 1 c 0 x")
        self.tells(flat, BEATS, "b", 0, 2, (("x", 0, 0, 1), ("b", 0, 1, 1), ("b", 0, 2, 1)))
        self.tells(flat, ((NO, (1,)), (("d",), (1,)), (NO, (1,))), "b", 0, 2,
                   (("b", 0, 0, 0), ("b", 0, 1, 0), ("b", 0, 2, 0)))

    def test_boxes_that_exchange(self):
        flat = flat_rows("clock c", "box a 2 c 2 b", "box b 2 c 1 a")
        self.tells(flat, ((C, ()), (C, ()), (NO, ())), "a", 0, 2, (("a", 0, 0, 0), ("b", 0, 1, 0), ("a", 0, 2, 0)))
        self.tells(flat, ((C, ()), (NO, ()), (NO, ())), "b", 1, 2, (("a", 1, 0, 1), ("b", 1, 1, 1), ("b", 1, 2, 1)))

    def test_what_does_not_matter(self):
        flat = flat_rows("clock c", "in x 1 c", "in z 1 c", "wire w 1 and x z", "wire v 1 or x z", "wire u 1 pick x z num 1 1")
        beats = ((NO, (0, 1)), (NO, (1, 0)), (NO, (0, 0)), (NO, (1, 1)))
        self.tells(flat, beats, "w", 0, 0, (("x", 0, 0, 0), ("w", 0, 0, 0)))
        self.tells(flat, beats, "w", 0, 1, (("z", 0, 1, 0), ("w", 0, 1, 0)))
        self.tells(flat, beats, "w", 0, 2, (("x", 0, 2, 0), ("w", 0, 2, 0)), (("z", 0, 2, 0), ("w", 0, 2, 0)))
        self.assertEqual(len(self.asks(flat, beats, "w", 0, 3)), 3)
        self.tells(flat, beats, "v", 0, 0, (("z", 0, 0, 1), ("v", 0, 0, 1)))
        self.tells(flat, beats, "v", 0, 3, (("x", 0, 3, 1), ("v", 0, 3, 1)), (("z", 0, 3, 1), ("v", 0, 3, 1)))
        self.assertEqual(len(self.asks(flat, beats, "v", 0, 2)), 3)
        self.tells(flat, beats, "u", 0, 0, (("x", 0, 0, 0), ("u", 0, 0, 1)))
        self.tells(flat, beats, "u", 0, 3, (("z", 0, 3, 1), ("u", 0, 3, 1)))
        self.assertEqual(len(self.asks(flat, beats, "u", 0, 1)), 3)

    def test_a_bit_that_is_so_whatever_the_names_are(self):
        flat = flat_rows("clock c", "in x 2 c", "wire w 2 or x not x", "wire v 1 same x x", "wire u 1 below x x",
                         "wire t 3 sum x num 2 0", "box b 2 c 3 xor b b", "out y 1 c num 1 1", "wire s 2 and x num 2 1",
                         "wire r 4 join x num 2 2")
        beats = ((C, (2,)), (C, (1,)), (NO, (3,)))
        for path, k, b in (("w", 0, 1), ("w", 1, 1), ("v", 0, 1), ("u", 0, 0), ("t", 2, 0), ("y", 0, 1), ("s", 1, 0),
                           ("r", 2, 0), ("r", 3, 1)):
            for n in range(3):
                self.tells(flat, beats, path, k, n, ((path, k, n, b),))
        self.tells(flat, beats, "b", 1, 0, (("b", 1, 0, 1),))
        self.tells(flat, beats, "b", 1, 1, (("b", 1, 1, 0),))
        self.tells(flat, beats, "b", 1, 2, (("b", 1, 2, 0),))
        self.tells(flat, beats, "s", 0, 1, (("x", 0, 1, 1), ("s", 0, 1, 1)))
        self.tells(flat, beats, "r", 1, 1, (("x", 1, 1, 0), ("r", 1, 1, 0)))

    def test_by_the_names_of_an_e_alone(self):
        # What w and v are together is nothing that the e of u tells.
        flat = flat_rows("clock c", "in x 1 c", "wire w 1 x", "wire v 1 not x", "wire u 1 and w v")
        self.assertEqual(len(self.asks(flat, ((NO, (0,)),), "u", 0, 0)), 3)
        self.assertEqual(len(self.asks(flat, ((NO, (1,)),), "u", 0, 0)), 3)
        self.assertEqual(self.asks(flat, ((NO, (1,)),), "u", 0, 0)[-2][0], "v")

    def test_a_step_that_others_bring_serves_as_well(self):
        # Each of u and v by itself might be so by x or by z; together they need but one.
        flat = flat_rows("clock c", "in x 1 c", "in z 1 c", "wire u 1 and x z", "wire v 1 and z x", "wire w 1 or u v",
                         "wire t 1 or w z", "wire s 1 or x u")
        beats = ((NO, (0, 0)),)
        self.assertEqual(len(self.asks(flat, beats, "w", 0, 0)), 4)
        self.assertEqual(len(self.asks(flat, beats, "t", 0, 0)), 5)
        self.assertEqual(len(self.asks(flat, beats, "s", 0, 0)), 3)

    def test_a_counter_that_is_set_back(self):
        flat = flat_rows("clock c", "in x 1 c", "box n 4 c 9 pick x num 4 0 cut 4 sum n num 1 1", "out y 1 c same n num 4 2")
        beats = ((C, (0,)), (C, (1,)), (C, (0,)), (C, (0,)), (NO, (0,)))
        why = self.asks(flat, beats, "y", 0, 4)
        # Nothing of what was ahead of the set back is needed.
        self.assertTrue(all(m >= 1 for _, _, m, _ in why))
        self.assertIn(("x", 0, 1, 1), why)

    def test_each_bit_of_each_flat(self):
        for name, flat in FLATS.items():
            beats = mixed_beats(flat, 4, len(name))
            with self.subTest(name):
                for row in flat:
                    for k in range(row[2]):
                        for n in range(4):
                            self.asks(flat, beats, row[1], k, n)

    def test_any_flats(self):
        asked = 0
        for seed in range(150):
            chance = random.Random(seed)
            flat = Flats(seed).flat()
            if not flat or not narrow(flat):
                continue
            beats = mixed_beats(flat, 12, seed)
            for _ in range(2):
                row = chance.choice(flat)
                asked += 1
                self.asks(flat, beats, row[1], chance.randrange(row[2]), chance.choice((0, 2, 3, 11)))
        self.assertGreater(asked, 100)

    def test_no_path(self):
        flat = FLATS["counter"]
        beats = mixed_beats(flat, 3)
        for thing in (*OTHERS, "c", "nn", ["n"], ("n",), ("n", 0), 0, "n.n"):
            for one in (flat, FLATS["nothing"]):
                refusal = refused(NoPath, why_of, one, beats, thing, 0, 0)
                self.assertIs(refusal.path, thing)
                self.assertIsInstance(refusal, KeyError)

    def test_asked_again(self):
        flat = FLATS["crossed"]
        beats = mixed_beats(flat, 12)
        first = [why_of(flat, beats, path, 0, n) for path in ("z", "y", "q") for n in range(12)]
        again = [why_of(flat, beats, path, 0, n) for path in ("z", "y", "q") for n in range(12)]
        self.assertEqual(first, again)

    def test_by_names(self):
        flat = FLATS["counter"]
        beats = mixed_beats(flat, 3)
        self.assertEqual(why_of(n=2, k=1, path="y", beats=beats, flat=flat), why_of(flat, beats, "y", 1, 2))

    def test_soon(self):
        rows = ["clock c", "in x 1 c", "box b 1 c 0 not b", "wire wa 1 xor x b"]
        for ahead, name in zip("abcdefghijklmnopqrstuvwxy", "bcdefghijklmnopqrstuvwxyz"):
            rows.append(f"wire w{name} 1 xor and w{ahead} w{ahead} or x and w{ahead} b")
        flat = flat_rows(*rows, "out y 1 c wz")
        beats = mixed_beats(flat, 12)
        self.asks(flat, beats, "y", 0, 11)
        names = ["b" + letter for letter in "abcdefghijklmnopqrst"]
        boxes = [f"box {name} 4 c {k % 16} xor x sum cut 3 {names[k - 1]} num 3 3" for k, name in enumerate(names)]
        wide = flat_rows("clock c", "in x 4 c", *boxes, "out y 4 c ba")
        beats = tuple((C, (k % 16,)) for k in range(12))
        for k in range(4):
            why = why_of(wide, beats, "y", k, 11)
            self.assertIs(why_holds(wide, beats, "y", k, 11, why), True)


if __name__ == "__main__":
    unittest.main()
