"""Point 11: what outs and paths tell, beat by beat."""

import unittest
from itertools import product

from tests.asking import FLATS, all_ins, design_of, flat_rows, mixed_beats, refused
from wiretongue.beats import told, wave_of
from wiretongue.errors import NoPath
from wiretongue.flat import flat_of

A, B, S = ("name", "a"), ("name", "b"), ("name", "s")


def tells(e, width, *ins):
    """What an out of an expression tells for all worths of ins (path, W): by these worths."""
    rows = [("in", path, wide, "c") for path, wide in ins]
    flat = (*rows, ("out", "y", width, e))
    worths = all_ins(flat)
    return dict(zip(worths, [outs[0] for outs in told(flat, tuple(((), given) for given in worths))]))


class Expressions(unittest.TestCase):
    def is_so(self, e, width, function, *ins):
        for worths, told_worth in tells(e, width, *ins).items():
            # By repr, so that truths in the place of numbers are seen.
            self.assertEqual(repr(told_worth), repr(function(*worths)), (e, worths))

    def test_a_name(self):
        for width in (1, 2, 3, 8):
            self.is_so(A, width, lambda a: a, ("a", width))

    def test_num(self):
        for width, worth in ((1, 0), (1, 1), (3, 5), (8, 255), (16, 65535), (16, 32768)):
            self.is_so(("num", width, worth), width, lambda worth=worth: worth)

    def test_not(self):
        for width in (1, 2, 3, 8):
            self.is_so(("not", A), width, lambda a: (1 << width) - 1 - a, ("a", width))

    def test_and_or_xor(self):
        for width in (1, 2, 3):
            ins = (("a", width), ("b", width))
            self.is_so(("and", A, B), width, lambda a, b: a & b, *ins)
            self.is_so(("or", A, B), width, lambda a, b: a | b, *ins)
            self.is_so(("xor", A, B), width, lambda a, b: a ^ b, *ins)

    def test_sum(self):
        for one, other in product((1, 2, 3), repeat=2):
            self.is_so(("sum", A, B), 1 + max(one, other), lambda a, b: a + b, ("a", one), ("b", other))

    def test_same_and_below(self):
        for width in (1, 2, 3):
            ins = (("a", width), ("b", width))
            self.is_so(("same", A, B), 1, lambda a, b: 1 if a == b else 0, *ins)
            self.is_so(("below", A, B), 1, lambda a, b: 1 if a < b else 0, *ins)

    def test_join(self):
        for one, other in product((1, 2, 3), repeat=2):
            self.is_so(("join", A, B), one + other, lambda a, b: a + b * 2 ** one, ("a", one), ("b", other))

    def test_pick(self):
        for width in (1, 2, 3):
            ins = (("s", 1), ("a", width), ("b", width))
            self.is_so(("pick", S, A, B), width, lambda s, a, b: a if s else b, *ins)

    def test_cut(self):
        for width in (1, 2, 3):
            for wide in range(1, width + 1):
                self.is_so(("cut", wide, A), wide, lambda a: a % 2 ** wide, ("a", width))

    def test_bit(self):
        for width in (1, 2, 3, 8):
            for k in range(width):
                self.is_so(("bit", k, A), 1, lambda a: a // 2 ** k % 2, ("a", width))

    def test_to_sixteen_wide(self):
        ins = (("a", 8), ("b", 8))
        given = ((0, 0), (255, 255), (1, 128), (200, 77), (170, 85))
        joined = ("join", A, B)
        for e, width, function in (
            (joined, 16, lambda a, b: a + 256 * b),
            (("not", joined), 16, lambda a, b: 65535 - a - 256 * b),
            (("xor", joined, ("num", 16, 65535)), 16, lambda a, b: 65535 - a - 256 * b),
            (("and", joined, ("join", B, A)), 16, lambda a, b: (a & b) * 257),
            (("sum", ("cut", 15, joined), ("cut", 15, ("join", B, A))), 16,
             lambda a, b: (a + 256 * b) % 32768 + (b + 256 * a) % 32768),
            (("same", joined, ("join", B, A)), 1, lambda a, b: int(a == b)),
            (("below", joined, ("join", B, A)), 1, lambda a, b: int(b < a)),
            (("pick", ("same", A, B), joined, ("num", 16, 65534)), 16, lambda a, b: 257 * a if a == b else 65534),
            (("cut", 12, joined), 12, lambda a, b: (a + 256 * b) % 4096),
            (("bit", 15, joined), 1, lambda a, b: b // 128),
        ):
            flat = (*[("in", path, wide, "c") for path, wide in ins], ("out", "y", width, e))
            self.assertEqual(told(flat, tuple(((), worths) for worths in given)),
                             tuple((function(*worths),) for worths in given), e)

    def test_within_one_another(self):
        self.is_so(("pick", ("not", ("same", A, B)), ("cut", 2, ("sum", A, ("bit", 1, B))), ("and", A, ("not", B))), 2,
                   lambda a, b: (a + b // 2) % 4 if a != b else 0, ("a", 2), ("b", 2))

    def test_of_boxes_and_wires(self):
        flat = flat_rows("clock c", "in x 2 c", "box b 2 c 2 x", "wire w 3 sum x b", "out y 3 c w", "out z 1 c bit 2 w")
        self.assertEqual(told(flat, ((("c",), (3,)), (("c",), (1,)), ((), (3,)))), ((5, 1), (4, 1), (4, 1)))


class Beats(unittest.TestCase):
    def test_boxes_begin_and_take(self):
        flat = flat_rows("clock c", "in x 3 c", "box b 3 c 6 x", "out y 3 c b")
        beats = ((("c",), (1,)), (("c",), (2,)), ((), (3,)), (("c",), (4,)), ((), (5,)))
        self.assertEqual(told(flat, beats), ((6,), (1,), (2,), (2,), (4,)))

    def test_boxes_that_exchange_what_they_hold(self):
        flat = FLATS["exchanged"]
        self.assertEqual(told(flat, ((("c",), ()),) * 4), ((5, 2), (2, 5), (5, 2), (2, 5)))

    def test_a_box_that_takes_itself(self):
        flat = flat_rows("clock c", "box b 2 c 1 not b", "out y 2 c b")
        self.assertEqual(told(flat, ((("c",), ()), (("c",), ()), ((), ()), (("c",), ()))), ((1,), (2,), (1,), (1,)))

    def test_boxes_behind_one_another(self):
        flat = flat_rows("clock c", "in x 1 c", "box e 1 c 1 b", "box b 1 c 1 a", "box a 1 c 0 x", "out y 1 c e")
        self.assertEqual(told(flat, ((("c",), (1,)),) * 5), ((1,), (1,), (0,), (1,), (1,)))

    def test_boxes_of_two_clocks(self):
        flat = flat_rows("clock c", "clock d", "box a 2 c 0 cut 2 sum a num 1 1", "box b 2 d 0 cut 2 sum b num 1 1",
                         "out y 2 c a", "out z 2 d b")
        clocks = ((), ("c",), ("d",), ("c", "d"), ("a", "b"), ("a", "c", "cc"), ())
        self.assertEqual(told(flat, tuple((beat, ()) for beat in clocks)),
                         ((0, 0), (0, 0), (1, 0), (1, 1), (2, 2), (2, 2), (3, 2)))

    def test_an_in_of_each_clock(self):
        flat = flat_rows("clock c", "clock d", "in x 2 d", "in z 3 c", "box b 2 d 3 x", "box a 3 c 0 z",
                         "out y 2 d b", "out w 3 c a", "out v 3 c z")
        beats = ((("c",), (1, 7)), (("d",), (2, 6)), (("c", "d"), (0, 5)), ((), (1, 4)))
        self.assertEqual(told(flat, beats), ((3, 0, 7), (3, 7, 6), (2, 7, 5), (0, 5, 4)))

    def test_a_cross_takes_two_beats(self):
        flat = flat_rows("clock c", "clock d", "in x 1 c", "cross q d 0 x", "out y 1 d q")
        beats = ((("d",), (1,)), (("c",), (0,)), (("d",), (0,)), (("d",), (0,)), ((), (0,)))
        self.assertEqual(told(flat, beats), ((0,), (0,), (0,), (1,), (0,)))

    def test_no_beats(self):
        for flat in FLATS.values():
            self.assertEqual(told(flat, ()), ())
            for row in flat:
                self.assertEqual(wave_of(flat, (), row[1]), ())

    def test_no_outs(self):
        flat = FLATS["no outs"]
        self.assertEqual(told(flat, mixed_beats(flat, 3)), ((), (), ()))
        self.assertEqual(told((), (((), ()),)), ((),))

    def test_outs_stand_in_order(self):
        flat = (("out", "z", 1, ("num", 1, 1)), ("out", "y", 2, ("num", 2, 2)), ("out", "a", 3, ("num", 3, 3)))
        self.assertEqual(told(flat, (((), ()),)), ((1, 2, 3),))

    def test_ins_stand_in_order(self):
        flat = (("out", "y", 2, A), ("in", "z", 3, "c"), ("in", "a", 2, "c"), ("out", "x", 3, ("name", "z")))
        self.assertEqual(told(flat, (((), (5, 2)),)), ((2, 5),))

    def test_sixty_beats(self):
        flat = flat_rows("clock c", "box n 6 c 50 cut 6 sum n num 1 1", "out y 6 c n")
        self.assertEqual(told(flat, ((("c",), ()),) * 60), tuple(((50 + n) % 64,) for n in range(60)))

    def test_rows_in_another_order(self):
        flat = FLATS["crossed"] + (("wire", "w1", 1, ("name", "w2")), ("wire", "w2", 1, ("name", "w3")),
                                   ("wire", "w3", 1, ("name", "x")), ("out", "v", 1, ("not", ("name", "w1"))))
        beats = mixed_beats(flat, 20)
        outs = [row[1] for row in flat if row[0] == "out"]
        other = flat[::-1]
        turned_outs = tuple(tuple(row[::-1]) for row in told(flat, beats))
        self.assertEqual(told(other, beats), turned_outs)
        for row in flat:
            self.assertEqual(wave_of(other, beats, row[1]), wave_of(flat, beats, row[1]))
        self.assertEqual([wave_of(flat, beats, path) for path in outs], list(zip(*told(flat, beats))))

    def test_whatever_paths(self):
        flat = (("in", "", 1, "c"), ("wire", "a b.", 1, ("not", ("name", ""))), ("box", "one", 1, "zz", 0, ("name", "a b.")),
                ("out", "x.one", 1, ("name", "one")))
        self.assertEqual(told(flat, ((("zz",), (0,)), ((), (1,)))), ((0,), (1,)))
        self.assertEqual(wave_of(flat, ((("zz",), (0,)), ((), (1,))), "a b."), (1, 0))

    def test_a_module_put_in_twice_is_alike_twice(self):
        used = ("clock k", "in a 2 k", "box b 2 k 1 xor a b", "out y 2 k b")
        top = ("clock c", "in x 2 c", "use i m 1 c x", "use j m 1 c x", "out y 2 c i.y", "out z 2 c j.y")
        flat, _ = flat_of(design_of(m=used, top=top), "top")
        for one, other in told(flat, mixed_beats(flat, 20)):
            self.assertEqual(one, other)

    def test_the_same_is_told_again(self):
        flat = FLATS["counter"]
        beats = mixed_beats(flat, 5)
        first = told(flat, beats)
        told(FLATS["exchanged"], ((("c",), ()),) * 3)
        self.assertEqual(told(flat, beats), first)
        self.assertEqual(told(flat=flat, beats=beats), first)

    def test_a_row_that_names_the_one_ahead_twice_on_and_on(self):
        rows = ["clock c", "in x 8 c", "wire aa 8 x"]
        names = ["a" + letter for letter in "abcdefghijklmnopqrstuvwxyz"] + ["ba", "bb"]
        for ahead, name in zip(names, names[1:]):
            rows.append(f"wire {name} 8 cut 8 sum {ahead} {ahead}" if name < "ad" else f"wire {name} 8 xor not {ahead} {ahead}")
        flat = flat_rows(*rows, "out y 8 c bb")
        self.assertEqual(told(flat, (((), (1,)), ((), (2,)))), ((255,), (255,)))
        self.assertEqual(wave_of(flat, (((), (3,)),), "ac"), (12,))


class Waves(unittest.TestCase):
    flat = flat_rows("clock c", "in x 2 c", "wire w 2 not b", "box b 2 c 1 x", "out y 3 c sum w x",
                     "wire v 1 bit 0 x")
    beats = ((("c",), (3,)), ((), (2,)), (("c",), (0,)), ((), (1,)))

    def test_of_each_sort_of_row(self):
        for path, wave in (("x", (3, 2, 0, 1)), ("b", (1, 3, 3, 0)), ("w", (2, 0, 0, 3)), ("y", (5, 2, 0, 4)),
                           ("v", (1, 0, 0, 1))):
            self.assertEqual(repr(wave_of(self.flat, self.beats, path)), repr(wave))

    def test_of_paths_with_points(self):
        used = ("clock k", "clock l", "in a 1 l", "cross q k 1 a", "out y 1 k q")
        flat, _ = flat_of(design_of(m=used, top=("clock c", "clock d", "in x 1 d", "use i m 2 c d x")), "top")
        beats = ((("c",), (0,)), (("c",), (1,)), (("c",), (1,)), ((), (0,)))
        self.assertEqual(wave_of(flat, beats, "i.a"), (0, 1, 1, 0))
        self.assertEqual(wave_of(flat, beats, "i.q.one"), (1, 0, 1, 1))
        self.assertEqual(wave_of(flat, beats, "i.q"), (1, 1, 0, 1))
        for path in ("i", "i.", "i.q.", ".one", "q", "i.q.on", "i.q.one "):
            self.assertEqual(refused(NoPath, wave_of, flat, beats, path).path, path)

    def test_no_path(self):
        for thing in ("q", "", "xx", "X", "x.y", None, 0, 1, True, (), ("x",), [], ["x"], {}, {"x": 1}, -7, ("name", "x")):
            for beats in (self.beats, ()):
                self.assertIs(refused(NoPath, wave_of, self.flat, beats, thing).path, thing)
        self.assertEqual(refused(NoPath, wave_of, (), (), "x").path, "x")

    def test_what_the_other_names_are_called_by_is_no_path(self):
        flat = (("in", "x", 1, "c"), ("box", "b", 1, "d", 0, ("name", "x")))
        for thing in ("c", "d", "in", "box", "name"):
            self.assertEqual(refused(NoPath, wave_of, flat, (), thing).path, thing)

    def test_by_name(self):
        self.assertEqual(wave_of(flat=self.flat, beats=self.beats, path="x"), (3, 2, 0, 1))


if __name__ == "__main__":
    unittest.main()
