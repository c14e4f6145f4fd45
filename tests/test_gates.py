"""Point 12: what the gates of a net are, beat by beat."""

import unittest

from tests.asking import is_plain
from wiretongue.gates import gate_waves

C, NO = ("c",), ()


def waves_of(gates, beats=(((), ()),), ins=()):
    return gate_waves((tuple(gates), (), ()), tuple(beats), tuple(ins))


class GateWaves(unittest.TestCase):
    def test_no_gates(self):
        self.assertEqual(repr(waves_of(())), "()")
        self.assertEqual(waves_of((), ()), ())

    def test_no_beats(self):
        gates = (("is", 1), ("in", "x", 0), ("box", "c", 1, 0), ("not", 0), ("and", 0, 1))
        self.assertEqual(repr(waves_of(gates, (), (("x", 1),))), repr(((), (), (), (), ())))

    def test_is(self):
        self.assertEqual(repr(waves_of((("is", 0), ("is", 1)), ((NO, ()),) * 3)), repr(((0, 0, 0), (1, 1, 1))))

    def test_each_sort_of_gate(self):
        gates = (("in", "x", 0), ("in", "x", 1), ("not", 0), ("and", 0, 1), ("or", 0, 1), ("xor", 0, 1))
        beats = [(NO, (worth,)) for worth in range(4)]
        self.assertEqual(repr(waves_of(gates, beats, (("x", 2),))), repr((
            (0, 1, 0, 1), (0, 0, 1, 1), (1, 0, 1, 0), (0, 0, 0, 1), (0, 1, 1, 1), (0, 1, 1, 0))))

    def test_the_same_feed_twice(self):
        gates = (("in", "x", 0), ("and", 0, 0), ("or", 0, 0), ("xor", 0, 0))
        self.assertEqual(waves_of(gates, [(NO, (0,)), (NO, (1,))], (("x", 1),)), ((0, 1), (0, 1), (0, 1), (0, 0)))

    def test_ins_in_their_order(self):
        gates = (("in", "a", 1), ("in", "z", 0), ("in", "z", 2), ("in", "a", 0), ("in", "m", 7))
        ins = (("z", 3), ("a", 2), ("m", 8))
        beats = [(NO, (4, 1, 128)), (NO, (3, 2, 127)), (C, (1, 3, 255))]
        self.assertEqual(waves_of(gates, beats, ins), ((0, 1, 1), (0, 1, 1), (1, 0, 0), (1, 0, 1), (1, 0, 1)))

    def test_a_box_takes_behind_a_beat_of_its_clock(self):
        gates = (("in", "x", 0), ("box", "c", 0, 0), ("box", "d", 1, 0), ("box", "c", 1, 1))
        beats = [(C, (1,)), (("d",), (0,)), (NO, (1,)), (("c", "d"), (1,)), (("b", "cc"), (0,)), (NO, (0,))]
        self.assertEqual(waves_of(gates, beats, (("x", 1),)), (
            (1, 0, 1, 1, 0, 0), (0, 1, 1, 1, 1, 1), (1, 1, 0, 0, 1, 1), (1, 0, 0, 0, 1, 1)))

    def test_a_box_fed_by_one_behind_it(self):
        gates = (("box", "c", 1, 2), ("in", "x", 0), ("not", 1))
        self.assertEqual(waves_of(gates, [(C, (1,)), (C, (0,)), (C, (0,))], (("x", 1),))[0], (1, 0, 1))

    def test_boxes_that_feed_themselves(self):
        gates = (("box", "c", 1, 0), ("box", "c", 0, 1), ("box", "c", 0, 3), ("not", 2))
        self.assertEqual(waves_of(gates, [(C, ())] * 3), ((1, 1, 1), (0, 0, 0), (0, 1, 0), (1, 0, 1)))

    def test_boxes_that_feed_one_another_take_at_once(self):
        gates = (("box", "c", 1, 1), ("box", "c", 0, 0))
        self.assertEqual(waves_of(gates, [(C, ())] * 4), ((1, 0, 1, 0), (0, 1, 0, 1)))
        gates = (("box", "c", 1, 2), ("box", "c", 0, 0), ("box", "c", 0, 1))
        self.assertEqual(waves_of(gates, [(C, ())] * 4), ((1, 0, 0, 1), (0, 1, 0, 0), (0, 0, 1, 0)))

    def test_of_a_net_the_gates_alone(self):
        gates = (("in", "x", 0), ("not", 0))
        net = (gates, (("x", 0, ("gone",)), ("y", 0, ("is", 1))), ("y",))
        self.assertEqual(gate_waves(net, ((NO, (1,)),), (("x", 1),)), ((1,), (0,)))

    def test_some_thousand_gates(self):
        gates = (("in", "x", 0), *[("not", k) for k in range(4000)])
        waves = waves_of(gates, [(NO, (0,)), (NO, (1,))], (("x", 1),))
        self.assertEqual(waves[4000], (0, 1))
        self.assertEqual(waves[3999], (1, 0))

    def test_sixty_beats(self):
        gates = (("box", "c", 0, 1), ("not", 0))
        waves = waves_of(gates, [(C, ())] * 60)
        self.assertEqual(waves, ((0, 1) * 30, (1, 0) * 30))
        self.assertTrue(is_plain(waves))

    def test_by_name(self):
        net = ((("in", "x", 0),), (), ())
        self.assertEqual(gate_waves(net=net, beats=((NO, (1,)),), ins=(("x", 1),)), ((1,),))


if __name__ == "__main__":
    unittest.main()
