"""Point 14: nets turned into such of no more gates."""

import unittest
from itertools import permutations

from tests.asking import FLATS, flat_rows, ins_of, is_plain, mixed_beats, waves_by_net
from wiretongue.kinds import TURNS
from wiretongue.netchecks import net_holds
from wiretongue.nets import net_of
from wiretongue.turns import turned

FED = ("not", "and", "or", "xor")
GONE = ("gone",)


def feeds(gate):
    if gate[0] == "box":
        return gate[3:]
    return gate[1:] if gate[0] in FED else ()


def is_folded(net):
    gates = net[0]
    for gate in gates:
        if gate[0] in FED and any(gates[feed][0] == "is" for feed in gate[1:]):
            return False
        if gate[0] in FED and len(gate) == 3 and gate[1] == gate[2]:
            return False
    return True


def is_shared(net):
    alike = [(gate[0], *sorted(gate[1:])) for gate in net[0] if gate[0] in FED]
    return len(set(alike)) == len(alike)


def kept_by_drop(net):
    """The numbers of the gates that drop leaves."""
    gates, traces, outs = net
    kept = {where[1] for path, _, where in traces if path in outs and where[0] == "gate"}
    while True:
        more = kept | {feed for g in kept for feed in feeds(gates[g])}
        if more == kept:
            return sorted(kept | {g for g, gate in enumerate(gates) if gate[0] == "in"})
        kept = more


def net_by_other_hand():
    """A flat and a net of it with all that turns turn."""
    flat = flat_rows("clock c", "in x 1 c", "in z 1 c", "box b 1 c 1 xor b x", "box n 1 c 0 n", "wire w 1 and x z",
                     "wire v 1 and z x", "wire u 1 or w num 1 0", "wire t 1 num 1 1", "out y 1 c xor u not b",
                     "out q 1 c num 1 0")
    gates = (
        ("in", "z", 0), ("box", "c", 0, 1), ("in", "x", 0), ("is", 0), ("is", 1), ("and", 2, 0), ("and", 0, 2),
        ("or", 6, 3), ("box", "c", 1, 9), ("xor", 8, 2), ("not", 8), ("xor", 8, 4), ("xor", 7, 11), ("xor", 5, 10),
        ("and", 13, 13), ("not", 3), ("not", 4), ("or", 16, 14), ("is", 0), ("xor", 12, 12), ("box", "d", 1, 17))
    traces = (("b", 0, ("gate", 8)), ("n", 0, ("gate", 1)), ("q", 0, ("gate", 19)), ("t", 0, ("gate", 15)),
              ("u", 0, ("gate", 7)), ("v", 0, ("gate", 6)), ("w", 0, ("gate", 5)), ("x", 0, ("gate", 2)),
              ("y", 0, ("gate", 17)), ("z", 0, ("gate", 0)))
    return flat, (gates, traces, ("q", "y"))


HANDS = [net_by_other_hand()] + [(flat, net_of(flat)) for flat in FLATS.values()]


class Turned(unittest.TestCase):
    def tells(self, flat, net, other):
        """That another net holds and tells as one does, of what it doesn't leave gone."""
        self.assertTrue(is_plain(other))
        self.assertIs(net_holds(flat, other), True)
        for seed in range(2):
            beats = mixed_beats(flat, 20, seed)
            one, two = waves_by_net(net, beats, ins_of(flat)), waves_by_net(other, beats, ins_of(flat))
            for path, wave in two.items():
                self.assertTrue(all(b is None or a == b for a, b in zip(one[path], wave)), path)

    def keeps_traces(self, net, other, turn):
        self.assertEqual(other[2], net[2])
        self.assertEqual([trace[:2] for trace in other[1]], [trace[:2] for trace in net[1]])
        for (_, _, where), (_, _, now) in zip(net[1], other[1]):
            if where == GONE:
                self.assertEqual(now, GONE)
            elif turn != "drop":
                self.assertNotEqual(now, GONE)

    def test_the_other_hand_is_right(self):
        flat, net = HANDS[0]
        self.assertIs(net_holds(flat, net), True)

    def test_each_net_by_each_turn_in_any_order(self):
        for flat, net in HANDS:
            for order in permutations(TURNS):
                other = net
                for turn in order * 2:
                    ahead, other = other, turned(other, turn)
                    self.assertLessEqual(len(other[0]), len(ahead[0]))
                    self.tells(flat, net, other)
                    self.keeps_traces(ahead, other, turn)

    def test_each_turn_leaves_what_it_is_to(self):
        for _, net in HANDS:
            self.assertTrue(is_folded(turned(net, "fold")))
            self.assertTrue(is_shared(turned(net, "share")))
            for other in (turned(net, "fold"), turned(net, "share"), turned(net, "drop")):
                self.assertTrue(is_folded(turned(other, "fold")))
                self.assertTrue(is_shared(turned(other, "share")))

    def test_each_turn_twice_has_as_many_gates(self):
        for _, net in HANDS:
            for turn in TURNS:
                once = turned(net, turn)
                self.assertEqual(len(turned(once, turn)[0]), len(once[0]))

    def test_the_other_hand_gets_fewer_by_each(self):
        _, net = HANDS[0]
        self.assertFalse(is_folded(net))
        self.assertFalse(is_shared(net))
        for turn in TURNS:
            self.assertLess(len(turned(net, turn)[0]), len(net[0]))

    def test_nets_of_nothing(self):
        for turn in TURNS:
            self.assertEqual(repr(turned(((), (), ()), turn)), "((), (), ())")

    def test_nets_with_nothing_but_ins(self):
        net = ((("in", "x", 1), ("in", "x", 0)), (("x", 0, ("gate", 1)), ("x", 1, GONE)), ())
        for turn in TURNS:
            self.assertEqual(turned(net, turn), net)

    def test_nets_with_gone_bits(self):
        flat, net = HANDS[0]
        for bit in ("n", "t", "u", "v", "w", "x", "z"):
            traces = tuple((path, k, GONE if path == bit else where) for path, k, where in net[1])
            gone = (net[0], traces, net[2])
            self.assertIs(net_holds(flat, gone), True, bit)
            for order in permutations(TURNS):
                other = gone
                for turn in order:
                    ahead, other = other, turned(other, turn)
                    self.assertIs(net_holds(flat, other), True, bit)
                    self.keeps_traces(ahead, other, turn)

    def test_traces_to_what_always_is_stay(self):
        flat = flat_rows("clock c", "box b 1 c 1 b", "wire w 1 b", "out y 1 c w")
        net = ((), (("b", 0, ("is", 1)), ("w", 0, ("is", 1)), ("y", 0, ("is", 1))), ("y",))
        self.assertIs(net_holds(flat, net), True)
        for turn in TURNS:
            self.assertEqual(turned(net, turn), net)

    def test_the_same_is_told_again(self):
        _, net = HANDS[0]
        for turn in TURNS:
            first = turned(net, turn)
            turned(HANDS[3][1], turn)
            self.assertEqual(turned(net=net, turn=turn), first)

    def test_some_thousand_gates(self):
        flat = (("in", "x", 1, "c"), ("out", "y", 1, ("name", "x")))
        gates = (("in", "x", 0), *[("not", k) for k in range(3000)])
        net = (gates, (("x", 0, ("gate", 0)), ("y", 0, ("gate", 3000))), ("y",))
        for turn in TURNS:
            self.assertIs(net_holds(flat, turned(net, turn)), True)


class Fold(unittest.TestCase):
    X = ("in", "x", 0)

    def folds(self, gates, at, told):
        """What a net of a wire w, led to a gate, and an in x comes to: the gate's, or is, or in's."""
        net = (tuple(gates), (("w", 0, ("gate", at)), ("x", 0, ("gate", 0))), ())
        other = turned(net, "fold")
        self.assertTrue(is_folded(other))
        self.assertLessEqual(len(other[0]), len(gates))
        where = other[1][0][2]
        gate = other[0][where[1]] if where[0] == "gate" else where
        self.assertEqual(gate, told)
        self.assertEqual(other[0][other[1][1][2][1]], self.X)

    def test_not(self):
        for b in range(2):
            self.folds((self.X, ("is", b), ("not", 1)), 2, ("is", 1 - b))

    def test_and_or_xor_beside_an_is(self):
        for word, b, told in (("and", 0, ("is", 0)), ("and", 1, self.X), ("or", 0, self.X), ("or", 1, ("is", 1)),
                              ("xor", 0, self.X)):
            self.folds((self.X, ("is", b), (word, 0, 1)), 2, told)
            self.folds((self.X, ("is", b), (word, 1, 0)), 2, told)

    def test_xor_beside_one(self):
        self.folds((self.X, ("is", 1), ("xor", 0, 1)), 2, ("not", 0))
        self.folds((self.X, ("is", 1), ("xor", 1, 0)), 2, ("not", 0))

    def test_of_two_is(self):
        for word, function in (("and", min), ("or", max), ("xor", lambda a, b: a ^ b)):
            for a in range(2):
                for b in range(2):
                    self.folds((self.X, ("is", a), ("is", b), (word, 1, 2)), 3, ("is", function(a, b)))

    def test_the_same_feed_twice(self):
        self.folds((self.X, ("and", 0, 0)), 1, self.X)
        self.folds((self.X, ("or", 0, 0)), 1, self.X)
        self.folds((self.X, ("xor", 0, 0)), 1, ("is", 0))
        for b in range(2):
            self.folds((self.X, ("is", b), ("and", 1, 1)), 2, ("is", b))
            self.folds((self.X, ("is", b), ("or", 1, 1)), 2, ("is", b))
            self.folds((self.X, ("is", b), ("xor", 1, 1)), 2, ("is", 0))

    def test_one_makes_room_for_the_next(self):
        # x and 1 is x; so x or (x and 1) is x; so an xor of both is 0; so a not of it is 1.
        gates = (self.X, ("is", 1), ("and", 0, 1), ("or", 2, 0), ("xor", 3, 2), ("not", 4), ("and", 5, 3))
        self.folds(gates, 5, ("is", 1))
        self.folds(gates, 6, self.X)

    def test_nothing_to_fold_stays(self):
        net = ((self.X, ("in", "z", 0), ("and", 0, 1), ("and", 1, 0), ("not", 2), ("is", 1), ("box", "c", 0, 5)),
               (("b", 0, ("gate", 6)), ("w", 0, ("gate", 3)), ("x", 0, ("gate", 0)), ("z", 0, GONE)), ())
        self.assertEqual(turned(net, "fold"), net)

    def test_boxes_fed_by_what_is_folded(self):
        net = ((("box", "c", 1, 4), ("in", "x", 0), ("is", 1), ("and", 1, 2), ("or", 3, 3)),
               (("b", 0, ("gate", 0)), ("x", 0, ("gate", 1))), ())
        gates, traces, _ = turned(net, "fold")
        boxes = [gate for gate in gates if gate[0] == "box"]
        self.assertEqual([gates[gate[3]] for gate in boxes], [("in", "x", 0)])
        self.assertEqual(gates[traces[0][2][1]], boxes[0])

    def test_a_box_is_no_is_though_it_never_changes(self):
        flat = flat_rows("clock c", "box b 1 c 1 b", "out y 1 c not b")
        net = ((("box", "c", 1, 0), ("not", 0)), (("b", 0, ("gate", 0)), ("y", 0, ("gate", 1))), ("y",))
        self.assertIs(net_holds(flat, net), True)
        self.assertIs(net_holds(flat, turned(net, "fold")), True)


class Share(unittest.TestCase):
    def shares(self, gates, bits, many, groups):
        """How many gates are left, and which of the numbers come to one gate."""
        traces = tuple((path, 0, ("gate", g)) for path, g in zip("abdefghijk", bits))
        other = turned((tuple(gates), traces, ()), "share")
        self.assertTrue(is_shared(other))
        self.assertEqual(len(other[0]), many)
        led = {}
        for (_, _, where), g in zip(other[1], bits):
            led.setdefault(where[1], []).append(g)
        self.assertEqual(sorted(led.values()), sorted(groups))

    INS = (("in", "x", 0), ("in", "z", 0))

    def test_alike(self):
        for word in ("and", "or", "xor"):
            self.shares((*self.INS, (word, 0, 1), (word, 0, 1)), (2, 3), 3, [[2, 3]])
        self.shares((*self.INS, ("not", 0), ("not", 0), ("not", 1)), (2, 3, 4), 4, [[2, 3], [4]])

    def test_with_both_feeds_exchanged(self):
        for word in ("and", "or", "xor"):
            self.shares((*self.INS, (word, 0, 1), (word, 1, 0)), (2, 3), 3, [[2, 3]])
            self.shares((*self.INS, (word, 1, 0), (word, 0, 1)), (2, 3), 3, [[2, 3]])

    def test_unlike_words_stay(self):
        self.shares((*self.INS, ("and", 0, 1), ("or", 0, 1), ("xor", 0, 1), ("and", 0, 0), ("and", 1, 1)),
                    (2, 3, 4, 5, 6), 7, [[2], [3], [4], [5], [6]])

    def test_that_become_alike_by_sharing(self):
        gates = (*self.INS, ("and", 0, 1), ("and", 1, 0), ("not", 2), ("not", 3), ("or", 4, 0), ("or", 0, 5))
        self.shares(gates, (2, 3, 4, 5, 6, 7), 5, [[2, 3], [4, 5], [6, 7]])

    def test_boxes_are_not_shared(self):
        flat = flat_rows("clock c", "in x 1 c", "box a 1 c 0 x", "box b 1 c 0 x", "out y 1 c not a", "out z 1 c not b")
        net = ((("in", "x", 0), ("box", "c", 0, 0), ("box", "c", 0, 0), ("not", 1), ("not", 2)), (
            ("a", 0, ("gate", 1)), ("b", 0, ("gate", 2)), ("x", 0, ("gate", 0)), ("y", 0, ("gate", 3)),
            ("z", 0, ("gate", 4))), ("y", "z"))
        self.assertIs(net_holds(flat, net), True)
        self.assertEqual(turned(net, "share"), net)

    def test_boxes_fed_by_what_is_shared(self):
        net = ((("box", "c", 1, 3), ("in", "x", 0), ("not", 1), ("not", 1), ("box", "c", 0, 3)),
               (("b", 0, ("gate", 0)), ("x", 0, ("gate", 1))), ())
        gates, _, _ = turned(net, "share")
        self.assertEqual(len(gates), 4)
        self.assertEqual([gates[gate[3]] for gate in gates if gate[0] == "box"], [("not", gates.index(("in", "x", 0)))] * 2)


class Drop(unittest.TestCase):
    def drops(self, net):
        """That just what is to be left is left."""
        gates, traces, outs = net
        kept = kept_by_drop(net)
        other = turned(net, "drop")
        numbers = {g: k for k, g in enumerate(kept)}
        self.assertEqual(len(other[0]), len(kept))
        expected = tuple((gates[g][0], *[numbers[feed] for feed in gates[g][1:]]) if gates[g][0] in FED else
                         (*gates[g][:3], numbers[gates[g][3]]) if gates[g][0] == "box" else gates[g] for g in kept)
        self.assertEqual(other[0], expected)
        self.assertEqual(other[1], tuple(
            (path, k, where if where[0] != "gate" else ("gate", numbers[where[1]]) if where[1] in numbers else GONE)
            for path, k, where in traces))
        self.assertEqual(other[2], outs)

    def test_of_each_net(self):
        for _, net in HANDS:
            self.drops(net)
            self.drops(turned(net, "fold"))

    def test_what_no_out_hangs_on(self):
        net = ((("in", "x", 0), ("not", 0), ("not", 1), ("is", 1), ("box", "c", 0, 1), ("and", 0, 4)),
               (("b", 0, ("gate", 4)), ("v", 0, ("gate", 2)), ("w", 0, ("gate", 1)), ("x", 0, ("gate", 0)),
                ("y", 0, ("gate", 1))), ("y",))
        self.assertEqual(turned(net, "drop"), ((("in", "x", 0), ("not", 0)), (
            ("b", 0, GONE), ("v", 0, GONE), ("w", 0, ("gate", 1)), ("x", 0, ("gate", 0)), ("y", 0, ("gate", 1))), ("y",)))

    def test_ins_stay(self):
        net = ((("is", 0), ("in", "x", 1), ("in", "x", 0)), (("x", 0, GONE), ("x", 1, ("gate", 1))), ())
        self.assertEqual(turned(net, "drop"), (net[0][1:], (("x", 0, GONE), ("x", 1, ("gate", 0))), ()))

    def test_an_is_that_an_out_needs_stays(self):
        net = ((("is", 1), ("is", 0), ("is", 0), ("box", "c", 0, 1)), (
            ("b", 0, ("gate", 3)), ("q", 0, ("gate", 3)), ("y", 0, ("gate", 0))), ("q", "y"))
        self.assertEqual(turned(net, "drop")[0], (("is", 1), ("is", 0), ("box", "c", 0, 1)))

    def test_boxes_that_feed_themselves(self):
        for outs, left in ((("y",), 1), (("z",), 2), ((), 0)):
            net = ((("box", "c", 1, 0), ("box", "c", 0, 2), ("not", 1)),
                   (("a", 0, ("gate", 0)), ("b", 0, ("gate", 1)), ("y", 0, ("gate", 0)), ("z", 0, ("gate", 2))), outs)
            self.drops(net)
            self.assertEqual(len(turned(net, "drop")[0]), left)

    def test_rings_of_boxes(self):
        ring = (("box", "c", 1, 2), ("box", "c", 0, 0), ("box", "c", 0, 1), ("box", "c", 0, 4), ("box", "c", 1, 3))
        traces = (*[(path, 0, ("gate", g)) for g, path in enumerate("abdef")], ("y", 0, ("gate", 1)))
        net = (ring, traces, ("y",))
        flat = flat_rows("clock c", "box a 1 c 1 d", "box b 1 c 0 a", "box d 1 c 0 b", "box e 1 c 0 f", "box f 1 c 1 e",
                         "out y 1 c b")
        self.assertIs(net_holds(flat, net), True)
        other = turned(net, "drop")
        self.assertEqual(other[0], ring[:3])
        self.assertEqual([where for _, _, where in other[1]], [
            ("gate", 0), ("gate", 1), ("gate", 2), GONE, GONE, ("gate", 1)])
        self.assertIs(net_holds(flat, other), True)

    def test_a_box_fed_by_one_behind_it(self):
        net = ((("is", 0), ("box", "c", 1, 4), ("is", 1), ("in", "x", 0), ("not", 3)),
               (("b", 0, ("gate", 1)), ("x", 0, ("gate", 3)), ("y", 0, ("gate", 1))), ("y",))
        self.assertEqual(turned(net, "drop")[0], (("box", "c", 1, 2), ("in", "x", 0), ("not", 1)))

    def test_outs_that_always_are(self):
        net = ((("in", "x", 0), ("not", 0)), (("w", 0, ("gate", 1)), ("x", 0, ("gate", 0)), ("y", 0, ("is", 1))), ("y",))
        self.assertEqual(turned(net, "drop"), (
            (("in", "x", 0),), (("w", 0, GONE), ("x", 0, ("gate", 0)), ("y", 0, ("is", 1))), ("y",)))


if __name__ == "__main__":
    unittest.main()
