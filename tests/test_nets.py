"""Points 3 and 12: the net of a flat."""

import unittest

from tests.asking import FLATS, design_of, flat_rows, ins_of, is_plain, mixed_beats, waves_by_net, where_in
from wiretongue.beats import told, wave_of
from wiretongue.flat import flat_of
from wiretongue.gates import gate_waves
from wiretongue.netchecks import net_holds
from wiretongue.nets import net_of

WORDS = ("is", "in", "box", "not", "and", "or", "xor")
TWICE = flat_rows("clock c", "in x 8 c", *[
    f"wire a{letter} 8 sum cut 7 {ahead} cut 7 {ahead}"
    for ahead, letter in zip(["x"] + ["a" + letter for letter in "abcdefghijklmnopqrstuvwxyz"],
                             "abcdefghijklmnopqrstuvwxyz")], "wire ba 8 xor az not az", "wire bb 8 and ba ba",
    "out y 8 c bb")


class Formed(unittest.TestCase):
    """That each part is as point 12 tells it."""

    def is_formed(self, flat):
        net = net_of(flat)
        self.assertTrue(is_plain(net))
        gates, traces, outs = net
        for g, gate in enumerate(gates):
            self.assertIn(gate[0], WORDS)
            if gate[0] in ("not", "and", "or", "xor"):
                self.assertEqual(len(gate), 2 if gate[0] == "not" else 3)
                self.assertTrue(all(0 <= feed < g for feed in gate[1:]), gate)
            elif gate[0] == "box":
                self.assertEqual(len(gate), 4)
                self.assertIn(gate[2], (0, 1))
                self.assertTrue(0 <= gate[3] < len(gates), gate)
            elif gate[0] == "in":
                self.assertIn(gate[1:], [(path, k) for path, width in ins_of(flat) for k in range(width)])
            else:
                self.assertIn(gate[1:], ((0,), (1,)))
        ins = [gate for gate in gates if gate[0] == "in"]
        self.assertEqual(len(set(ins)), len(ins))
        self.assertEqual([trace[:2] for trace in traces], sorted((row[1], k) for row in flat for k in range(row[2])))
        self.assertEqual(list(traces), sorted(traces))
        for _, _, where in traces:
            self.assertTrue(where in (("is", 0), ("is", 1)) or where[0] == "gate" and where[1] < len(gates), where)
        led = {where[1] for path, _, where in traces if where[0] == "gate"}
        self.assertTrue(all(g in led for g, gate in enumerate(gates) if gate[0] == "box"))
        self.assertEqual(outs, tuple(sorted(row[1] for row in flat if row[0] == "out")))

    def test_of_each_flat(self):
        for name, flat in FLATS.items():
            with self.subTest(name):
                self.is_formed(flat)
                self.is_formed(flat[::-1])

    def test_of_nothing(self):
        self.assertEqual(repr(net_of(())), "((), (), ())")

    def test_paths_rise_as_texts_do(self):
        top = ("clock c", "in x 1 c", "use i m 1 c x", "wire ia 1 x", "out ya 1 c i.y", "out y 1 c x")
        flat, _ = flat_of(design_of(m=("clock k", "in a 1 k", "out y 1 k a"), top=top), "top")
        self.assertEqual([trace[0] for trace in net_of(flat)[1]], ["i.a", "i.y", "ia", "x", "y", "ya"])
        self.assertEqual(net_of(flat)[2], ("y", "ya"))

    def test_ten_bits_rise_as_numbers_do(self):
        flat = (("wire", "w", 8, ("num", 8, 129)),)
        self.assertEqual([trace[1] for trace in net_of(flat)[1]], list(range(8)))


class Tells(unittest.TestCase):
    """That a net tells, beat by beat, what its flat tells."""

    def tells(self, flat, many=25):
        net = net_of(flat)
        self.assertIs(net_holds(flat, net), True)
        for seed in range(3):
            beats = mixed_beats(flat, many, seed)
            waves = waves_by_net(net, beats, ins_of(flat))
            for row in flat:
                self.assertEqual(waves[row[1]], wave_of(flat, beats, row[1]), row)

    def test_of_each_flat(self):
        for name, flat in FLATS.items():
            with self.subTest(name):
                self.tells(flat)
                self.tells(flat[::-1])

    def test_each_word_of_small_widths(self):
        a, b, s = ("name", "a"), ("name", "b"), ("name", "s")
        for width in (1, 2, 3):
            for other in (1, 2, 3):
                es = [(("sum", a, b), 1 + max(width, other)), (("sum", b, a), 1 + max(width, other)),
                      (("join", a, b), width + other), (("not", a), width), (("num", width, (1 << width) - 1), width)]
                es += [(("cut", k, a), k) for k in range(1, width + 1)]
                es += [(("bit", k, a), 1) for k in range(width)]
                if width == other:
                    es += [((word, a, b), width) for word in ("and", "or", "xor")]
                    es += [(("same", a, b), 1), (("below", a, b), 1), (("pick", s, a, b), width)]
                for e, wide in es:
                    rows = (("in", "a", width, "c"), ("in", "b", other, "c"), ("in", "s", 1, "c"), ("out", "y", wide, e))
                    with self.subTest(e=e, width=width, other=other):
                        self.tells(rows, 60)

    def test_each_word_beside_what_always_is(self):
        a, s = ("name", "a"), ("name", "s")
        for worth in range(4):
            num = ("num", 2, worth)
            for one, other in ((a, num), (num, a), (num, num), (a, a)):
                es = [((word, one, other), 2) for word in ("and", "or", "xor")]
                es += [(("sum", one, other), 3), (("same", one, other), 1), (("below", one, other), 1),
                       (("pick", s, one, other), 2), (("pick", ("num", 1, 1), one, other), 2), (("not", one), 2),
                       (("pick", ("num", 1, 0), one, other), 2), (("join", one, other), 4)]
                for e, wide in es:
                    rows = (("in", "a", 2, "c"), ("in", "s", 1, "c"), ("out", "y", wide, e))
                    with self.subTest(e=e):
                        self.tells(rows)

    def test_to_sixteen_wide(self):
        x, joined = ("name", "x"), ("join", ("name", "x"), ("num", 8, 170))
        self.tells((("in", "x", 8, "c"), ("out", "y", 16, ("not", joined)), ("out", "z", 1, ("bit", 15, joined)),
                    ("out", "v", 12, ("cut", 12, joined)), ("out", "u", 1, ("below", joined, ("num", 16, 43600))),
                    ("out", "w", 16, ("sum", ("cut", 15, joined), ("num", 15, 20000))),
                    ("out", "t", 1, ("same", joined, ("join", x, x)))))

    def test_each_gate_of_boxes_leads_to_its_clock(self):
        net = net_of(FLATS["crossed"])
        for path, clock, worth in (("q", "d", 1), ("q.one", "d", 1), ("r", "c", 0), ("r.one", "c", 0)):
            where = where_in(net, path)
            self.assertEqual(net[0][where[1]][:3], ("box", clock, worth))

    def test_a_box_of_several_bits_begins_bit_by_bit(self):
        net = net_of(flat_rows("clock c", "box b 3 c 5 b"))
        self.assertEqual([net[0][where[1]][2] for _, _, where in net[1]], [1, 0, 1])

    def test_a_module_put_in_twice_is_alike_twice(self):
        used = ("clock k", "in a 2 k", "box b 2 k 1 xor a b", "out y 3 k sum a b")
        top = ("clock c", "in x 2 c", "use i m 1 c x", "use j m 1 c x", "out y 3 c i.y", "out z 3 c j.y")
        flat, _ = flat_of(design_of(m=used, top=top), "top")
        self.tells(flat)
        beats = mixed_beats(flat, 20)
        waves = waves_by_net(net_of(flat), beats, ins_of(flat))
        for name in ("a", "b", "y"):
            self.assertEqual(waves[f"i.{name}"], waves[f"j.{name}"])

    def test_no_clock_comes_into_another_but_through_two_boxes(self):
        flat = FLATS["crossed"]
        gates, traces, _ = net_of(flat)
        firsts = [where_in((gates, traces, ()), path)[1] for path in ("q.one", "r.one")]

        def clocks_behind(g):
            if gates[g][0] in ("box", "in"):
                return {"c" if gates[g][0] == "in" else gates[g][1]}
            return set().union(*[clocks_behind(feed) for feed in gates[g][1:]])

        for g, gate in enumerate(gates):
            if gate[0] == "box" and g in firsts:
                self.assertIn(gates[gate[3]][0], ("box", "in"))
            elif gate[0] == "box":
                self.assertLessEqual(clocks_behind(gate[3]), {gate[1]})

    def test_a_row_that_names_the_one_ahead_twice_on_and_on(self):
        flat = TWICE
        self.assertEqual(sum(row[0] == "wire" for row in flat), 28)
        net = net_of(flat)
        self.assertIs(net_holds(flat, net), True)
        beats = ((("c",), (1,)), (("c",), (200,)))
        self.assertEqual(told(flat, beats), ((255,), (255,)))
        self.assertEqual(wave_of(flat, beats, "ac"), (8, 64))
        self.assertEqual(waves_by_net(net, beats, ins_of(flat))["y"], (255, 255))

    def test_long_chains_of_wires(self):
        rows = [("wire", f"w{k}", 1, ("not", ("name", f"w{k + 1}"))) for k in range(1500)]
        flat = (*rows, ("wire", "w1500", 1, ("name", "x")), ("in", "x", 1, "c"))
        net = net_of(flat)
        self.assertIs(net_holds(flat, net), True)
        beats = (((), (1,)), ((), (0,)))
        self.assertEqual(wave_of(flat, beats, "w0"), (1, 0))
        self.assertEqual(waves_by_net(net, beats, ins_of(flat))["w0"], (1, 0))

    def test_eight_sources_to_each_bit(self):
        e = ("name", "a")
        for path in "bdefghi":
            e = ("xor", e, ("name", path))
        flat = (*[("in", path, 8, "c") for path in "abdefghi"], ("out", "y", 8, e))
        self.tells(flat)

    def test_the_same_is_told_again(self):
        first = net_of(FLATS["counter"])
        net_of(FLATS["crossed"])
        self.assertEqual(net_of(flat=FLATS["counter"]), first)

    def test_what_is_cut_off_leaves_no_gates(self):
        flat = flat_rows("clock c", "in x 1 c", "in z 1 c", "out y 1 c cut 1 sum x z")
        gates, _, _ = net_of(flat)
        self.assertEqual(gates, (("in", "x", 0), ("in", "z", 0), ("xor", 0, 1)))


class Kept(unittest.TestCase):
    def test_gates_of_boxes_that_nothing_hangs_on(self):
        flat = flat_rows("clock c", "box b 2 c 1 num 2 2")
        gates, traces, _ = net_of(flat)
        waves = gate_waves((gates, traces, ()), ((("c",), ()), ((), ())), ())
        self.assertEqual([waves[where[1]] for _, _, where in traces], [(1, 0), (0, 1)])

    def test_ins_that_nothing_hangs_on(self):
        self.assertEqual(net_of(FLATS["an in"]), (
            (("in", "x", 0), ("in", "x", 1), ("in", "x", 2)),
            (("x", 0, ("gate", 0)), ("x", 1, ("gate", 1)), ("x", 2, ("gate", 2))), ()))


if __name__ == "__main__":
    unittest.main()
