"""Point 17: what a net tells of the names of its flat."""

import unittest

from tests.asking import FLATS, OTHERS, flat_rows, ins_of, is_plain, mixed_beats, refused, waves_by_net
from wiretongue.beats import wave_of
from wiretongue.errors import NoPath
from wiretongue.kinds import TURNS
from wiretongue.nets import net_of
from wiretongue.turns import turned
from wiretongue.waves import Waves

FLAT = flat_rows("clock c", "in x 2 c", "wire w 3 sum x num 2 1", "wire n 2 join num 1 1 bit 0 x",
                 "box b 2 c 1 xor b x", "wire g 1 and bit 0 b bit 1 x", "out y 2 c b", "out z 1 c num 1 1")
BEATS = ((("c",), (2,)), ((), (3,)), (("c", "d"), (1,)), (("d",), (0,)))
# Gates that FLAT's net may be, with bits gone, traced to what they always are, and together.
GATES = (("in", "x", 0), ("in", "x", 1), ("box", "c", 1, 4), ("box", "c", 0, 5), ("xor", 2, 0), ("xor", 3, 1),
         ("not", 0), ("is", 1), ("and", 2, 1))
GONE = ("gone",)
TRACES = (("b", 0, ("gate", 2)), ("b", 1, ("gate", 3)), ("g", 0, GONE), ("n", 0, ("is", 1)), ("n", 1, ("gate", 0)),
          ("w", 0, ("gate", 6)), ("w", 1, GONE), ("w", 2, GONE), ("x", 0, ("gate", 0)), ("x", 1, ("gate", 1)),
          ("y", 0, ("gate", 2)), ("y", 1, ("gate", 3)), ("z", 0, ("gate", 7)))
NET = (GATES, TRACES, ("y", "z"))


class Waved(unittest.TestCase):
    def setUp(self):
        self.waves = Waves(FLAT, NET, BEATS)

    def tells(self, told, thing):
        self.assertTrue(is_plain(told) or None in told)
        self.assertEqual(repr(told), repr(thing))

    def test_wave(self):
        self.tells(self.waves.wave("x"), (2, 3, 1, 0))
        self.tells(self.waves.wave("b"), (1, 3, 3, 2))
        self.tells(self.waves.wave("y"), (1, 3, 3, 2))
        self.tells(self.waves.wave("n"), (1, 3, 3, 1))
        self.tells(self.waves.wave("z"), (1, 1, 1, 1))

    def test_wave_where_a_bit_is_gone(self):
        self.tells(self.waves.wave("w"), (None,) * 4)
        self.tells(self.waves.wave("g"), (None,) * 4)

    def test_lacking(self):
        for path, gone in (("w", (1, 2)), ("g", (0,)), ("x", ()), ("b", ()), ("n", ()), ("y", ()), ("z", ())):
            self.tells(self.waves.lacking(path), gone)

    def test_gates(self):
        self.tells(self.waves.gates("x"), (("gate", 0), ("gate", 1)))
        self.tells(self.waves.gates("w"), (("gate", 6), GONE, GONE))
        self.tells(self.waves.gates("n"), (("is", 1), ("gate", 0)))
        self.tells(self.waves.gates("b"), (("gate", 2), ("gate", 3)))
        self.tells(self.waves.gates("y"), (("gate", 2), ("gate", 3)))
        self.tells(self.waves.gates("z"), (("gate", 7),))
        self.tells(self.waves.gates("g"), (GONE,))

    def test_names_at(self):
        told = ((("n", 1), ("x", 0)), (("x", 1),), (("b", 0), ("y", 0)), (("b", 1), ("y", 1)), (), (), (("w", 0),),
                (("z", 0),), ())
        for g, names in enumerate(told):
            self.tells(self.waves.names_at(g), names)

    def test_names_at_a_gate_with_several_bits_of_one_name(self):
        flat = flat_rows("clock c", "in x 1 c", "wire w 3 join x join x x", "out y 1 c x")
        net = ((("in", "x", 0),), tuple((path, k, ("gate", 0)) for path, width in (("w", 3), ("x", 1), ("y", 1))
                                        for k in range(width)), ("y",))
        waves = Waves(flat, net, ())
        self.tells(waves.names_at(0), (("w", 0), ("w", 1), ("w", 2), ("x", 0), ("y", 0)))

    def test_paths(self):
        self.tells(self.waves.paths(), ("b", "g", "n", "w", "x", "y", "z"))
        self.tells(self.waves.paths(None), self.waves.paths())
        self.tells(self.waves.paths(by=None), self.waves.paths())
        self.tells(Waves((), ((), (), ()), ()).paths(), ())
        self.tells(Waves((), ((), (), ()), ()).paths(len), ())

    def test_paths_rise_as_texts(self):
        rows = "xa x.y xx b z x.one xz x".split()
        flat = tuple(("in", path, 1, "c") for path in rows)
        self.tells(Waves(flat, net_of(flat), ()).paths(), tuple(sorted(rows)))

    def test_paths_by_whole_numbers(self):
        gone = [len(self.waves.lacking(path)) for path in self.waves.paths()]
        self.assertEqual(gone, [0, 1, 0, 2, 0, 0, 0])
        self.tells(self.waves.paths(lambda path: len(self.waves.lacking(path))), ("b", "n", "x", "y", "z", "g", "w"))
        self.tells(self.waves.paths(by=lambda path: -len(self.waves.lacking(path))),
                   ("w", "g", "b", "n", "x", "y", "z"))
        self.tells(self.waves.paths(lambda path: 0), self.waves.paths())
        self.tells(self.waves.paths(lambda path: -ord(path)), self.waves.paths()[::-1])
        self.tells(self.waves.paths(lambda path: 10 if path == "n" else 9), ("b", "g", "w", "x", "y", "z", "n"))

    def test_paths_by_texts(self):
        self.tells(self.waves.paths(lambda path: "a" if path in "zx" else "aa"), ("x", "z", "b", "g", "n", "w", "y"))
        self.tells(self.waves.paths(lambda path: "10" if path == "z" else "9"), ("z", "b", "g", "n", "w", "x", "y"))
        self.tells(self.waves.paths(str), self.waves.paths())

    def test_by_is_asked_of_each_path_once(self):
        asked = []
        self.waves.paths(lambda path: asked.append(path) or 0)
        self.assertEqual(sorted(asked), list(self.waves.paths()))

    def test_len(self):
        self.assertEqual(len(self.waves), 4)
        self.assertEqual(len(Waves(FLAT, NET, ())), 0)
        self.assertEqual(len(Waves(FLAT, NET, BEATS * 15)), 60)

    def test_no_beats(self):
        waves = Waves(FLAT, NET, ())
        for path in waves.paths():
            self.tells(waves.wave(path), ())
            self.tells(waves.gates(path), self.waves.gates(path))
            self.tells(waves.lacking(path), self.waves.lacking(path))
        for g in range(len(GATES)):
            self.tells(waves.names_at(g), self.waves.names_at(g))

    def test_equality(self):
        self.assertTrue(self.waves == Waves(FLAT, NET, BEATS))
        self.assertTrue(self.waves == self.waves)
        self.assertFalse(self.waves != Waves(FLAT, NET, BEATS))
        others = [Waves(FLAT[::-1], NET, BEATS), Waves(FLAT, net_of(FLAT), BEATS), Waves(FLAT, NET, BEATS[:3]),
                  Waves(FLAT, (*NET[:2], ("y",)), BEATS), Waves(FLAT, NET, BEATS[::-1]), Waves((), ((), (), ()), BEATS[:0])]
        for other in [*others, *OTHERS, (FLAT, NET, BEATS), Waves, len]:
            self.assertFalse(self.waves == other)
            self.assertFalse(other == self.waves)
            self.assertTrue(self.waves != other)
            self.assertTrue(other != self.waves)
        self.assertIs(self.waves.__eq__(3), False)

    def test_equal_as_the_same_three_told_apart(self):
        flat = flat_rows("clock c", "in x 2 c", "out y 2 c x")
        other = flat_rows("clock c", "in x 2 c", "out y 2 c not not x")
        net = net_of(flat)
        self.assertTrue(Waves(flat, net, ()) == Waves(tuple(list(flat)), (*net,), ()))
        self.assertFalse(Waves(flat, net, ()) == Waves(other, net, ()))

    def test_no_path(self):
        for ask in (self.waves.wave, self.waves.lacking, self.waves.gates):
            for thing in (*OTHERS, "c", "gone", "w.w", "xx", "X", 0, ("x",), ["x"], ("w", 0)):
                if thing != "x" and thing not in self.waves.paths():
                    refusal = refused(NoPath, ask, thing)
                    self.assertIs(refusal.path, thing)
                    self.assertIsInstance(refusal, KeyError)
            self.assertIs(refused(NoPath, Waves((), ((), (), ()), ()).wave, "x").path.__class__, str)

    def test_by_names(self):
        waves = Waves(beats=BEATS, net=NET, flat=FLAT)
        self.assertTrue(waves == self.waves)
        self.assertEqual(waves.wave(path="b"), self.waves.wave("b"))
        self.assertEqual(waves.lacking(path="w"), (1, 2))
        self.assertEqual(waves.gates(path="z"), (("gate", 7),))
        self.assertEqual(waves.names_at(gate=7), (("z", 0),))

    def test_by_turns_with_another_one(self):
        other = Waves(FLAT, net_of(FLAT), BEATS[::-1])
        for _ in range(2):
            for path in self.waves.paths():
                self.assertEqual(other.wave(path), wave_of(FLAT, BEATS[::-1], path))
                if not self.waves.lacking(path):
                    self.assertEqual(self.waves.wave(path), wave_of(FLAT, BEATS, path))
                self.assertEqual(other.lacking(path), ())
            self.assertEqual(len(other.paths(len)), len(self.waves.paths(str)))
        self.assertTrue(self.waves == Waves(FLAT, NET, BEATS))

    def test_by_the_net_alone(self):
        # This net tells otherwise than the flat.
        net = ((("in", "x", 0), ("not", 0), ("box", "d", 1, 1)), (("b", 0, ("gate", 2)), ("x", 0, ("gate", 1))), ())
        flat = (("in", "x", 1, "c"), ("box", "b", 1, "c", 0, ("name", "x")))
        waves = Waves(flat, net, ((("c",), (1,)), (("d",), (1,)), ((), (0,))))
        self.tells(waves.wave("x"), (0, 0, 1))
        self.tells(waves.wave("b"), (1, 1, 0))

    def test_of_each_flat(self):
        for name, flat in FLATS.items():
            nets = [net_of(flat)]
            for turn in TURNS:
                nets.append(turned(nets[-1], turn))
            for seed, net in enumerate(nets):
                beats = mixed_beats(flat, 10, seed)
                waves = Waves(flat, net, beats)
                told = waves_by_net(net, beats, ins_of(flat))
                with self.subTest(name, seed=seed):
                    self.assertEqual(waves.paths(), tuple(sorted(row[1] for row in flat)))
                    for path in waves.paths():
                        wheres = tuple(trace[2] for trace in net[1] if trace[0] == path)
                        self.tells(waves.gates(path), wheres)
                        self.tells(waves.lacking(path), tuple(k for k, w in enumerate(wheres) if w == GONE))
                        lacks = bool(waves.lacking(path))
                        self.tells(waves.wave(path), (None,) * 10 if lacks else wave_of(flat, beats, path))
                        self.assertEqual(waves.wave(path), (None,) * 10 if lacks else told[path])
                    for g in range(len(net[0])):
                        self.tells(waves.names_at(g), tuple(t[:2] for t in net[1] if t[2] == ("gate", g)))

    def test_soon(self):
        rows = ["clock c", "in a 8 c"] + [f"box {name} 8 c 1 cut 8 sum {ahead} {name}" for ahead, name in
                                          zip("abdefghij", "bdefghijk")] + ["out y 8 c k"]
        flat = flat_rows(*rows)
        beats = mixed_beats(flat, 60)
        waves = Waves(flat, net_of(flat), beats)
        for path in waves.paths():
            self.assertEqual(waves.wave(path), wave_of(flat, beats, path))


if __name__ == "__main__":
    unittest.main()
