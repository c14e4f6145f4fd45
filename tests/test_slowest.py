"""Point 16: the slowest way of a clock."""

import unittest

from tests.asking import FLATS, is_plain
from wiretongue.kinds import DELAYS
from wiretongue.laying import laid
from wiretongue.nets import net_of
from wiretongue.slowest import slowest


def in_a_row(*gates):
    """A net, and its laying in one row, each way straight."""
    net = (tuple(gates), (), ())
    return net, laid(net, (1, max(1, len(gates))))


def feeds(gate):
    return {"not": gate[1:], "and": gate[1:], "or": gate[1:], "xor": gate[1:], "box": gate[3:]}.get(gate[0], ())


class Arrivals(unittest.TestCase):
    def arrive(self, gates, delays, arrivals):
        net, laying = in_a_row(*gates)
        told = slowest(net, laying, "c", delays=delays)
        self.assertTrue(is_plain(told))
        self.assertEqual(repr(told[2]), repr(arrivals))

    def test_ins_is_and_boxes(self):
        self.arrive((("in", "x", 0), ("is", 1), ("box", "c", 0, 0), ("box", "d", 1, 3)), (5, 6, 7), (0, 0, 0, 0))

    def test_a_not(self):
        self.arrive((("in", "x", 0), ("not", 0)), (10, 2, 3), (0, 12))
        self.arrive((("in", "x", 0), ("is", 0), ("not", 0), ("not", 2)), (10, 2, 3), (0, 0, 22, 34))

    def test_gates_of_two_feeds(self):
        for word in ("and", "or", "xor"):
            self.arrive((("in", "x", 0), ("is", 0), (word, 0, 1)), (10, 2, 3), (0, 0, 23))
            self.arrive((("in", "x", 0), ("is", 0), (word, 1, 0)), (10, 2, 3), (0, 0, 23))
            self.arrive((("in", "x", 0), ("is", 0), (word, 1, 1)), (10, 2, 3), (0, 0, 13))
            self.arrive((("in", "x", 0), ("not", 0), (word, 0, 1)), (10, 20, 3), (0, 30, 43))
            self.arrive((("in", "x", 0), ("not", 0), (word, 1, 0)), (10, 2, 3), (0, 12, 25))
            self.arrive((("in", "x", 0), ("not", 0), (word, 1, 0)), (0, 0, 3), (0, 0, 3))

    def test_by_a_box(self):
        self.arrive((("in", "x", 0), ("box", "c", 0, 2), ("not", 1)), (1, 100, 3), (0, 0, 101))

    def test_by_long_ways(self):
        net = ((("in", "x", 0), ("is", 1), ("or", 0, 1)), (), ())
        laying = (((0, 0), (0, 1), (1, 0)), ((), (), (
            ((0, 0), (1, 0), (0, 0), (1, 0)), ((0, 1), (1, 1), (1, 0)))))
        self.assertEqual(slowest(net, laying, "c", delays=(10, 2, 3))[2], (0, 0, 33))

    def test_of_noughts(self):
        self.arrive((("in", "x", 0), ("not", 0), ("and", 0, 1), ("box", "c", 0, 2)), (0, 0, 0), (0, 0, 0, 0))


class Slowest(unittest.TestCase):
    def tells(self, net, laying, clock, time, paths, **delays):
        told = slowest(net, laying, clock, **delays)
        self.assertTrue(is_plain(told))
        self.assertEqual(told[0], time)
        self.assertIn(told[1], paths)
        self.is_one(net[0], laying[1], clock, told, delays.get("delays", DELAYS))

    def is_one(self, gates, ways, clock, told, delays):
        """That what is told is a slowest way, reckoned anew."""
        time, path, arrivals = told
        step, one, two = delays
        self.assertEqual(len(arrivals), len(gates))

        def comes(g, feed):
            return max(step * (len(way) - 1) for way, fed in zip(ways[g], feeds(gates[g])) if fed == feed)

        own = {"not": one, "and": two, "or": two, "xor": two}
        for g, gate in enumerate(gates):
            brought = [arrivals[feed] + comes(g, feed) for feed in feeds(gate)]
            self.assertEqual(arrivals[g], max(brought) + own[gate[0]] if gate[0] in own else 0)
        boxes = [g for g, gate in enumerate(gates) if gate[:2] == ("box", clock)]
        self.assertEqual(time, max([arrivals[gates[g][3]] + comes(g, gates[g][3]) for g in boxes], default=0))
        if not boxes:
            self.assertEqual(path, ())
            return
        self.assertGreaterEqual(len(path), 2)
        self.assertIn(gates[path[0]][0], ("in", "is", "box"))
        self.assertIn(path[-1], boxes)
        self.assertTrue(all(gates[g][0] in own for g in path[1:-1]))
        self.assertTrue(all(feed in feeds(gates[g]) for feed, g in zip(path, path[1:])))
        self.assertEqual(time, sum(comes(g, feed) + own.get(gates[g][0], 0) for feed, g in zip(path, path[1:])))

    def test_a_box_straight_behind_an_in(self):
        net, laying = in_a_row(("in", "x", 0), ("is", 0), ("is", 1), ("box", "c", 0, 0))
        self.tells(net, laying, "c", 3, [(0, 3)])
        self.tells(net, laying, "c", 30, [(0, 3)], delays=(10, 200, 300))
        self.tells(net, laying, "c", 0, [(0, 3)], delays=(0, 200, 300))

    def test_behind_an_is_and_behind_a_box(self):
        net, laying = in_a_row(("is", 0), ("box", "c", 0, 0))
        self.tells(net, laying, "c", 1, [(0, 1)])
        net, laying = in_a_row(("box", "d", 0, 0), ("box", "c", 0, 0))
        self.tells(net, laying, "c", 1, [(0, 1)])
        self.tells(net, laying, "d", 0, [(0, 0)])

    def test_through_gates(self):
        net, laying = in_a_row(("in", "x", 0), ("not", 0), ("and", 0, 1), ("box", "c", 0, 2))
        self.tells(net, laying, "c", 1 + 2 + 1 + 3 + 1, [(0, 1, 2, 3)])
        self.tells(net, laying, "c", 30 + 2 + 0, [(0, 1, 2, 3)], delays=(10, 2, 0))
        self.tells(net, laying, "c", 30, [(0, 2, 3), (0, 1, 2, 3)], delays=(10, 0, 0))

    def test_the_way_through_the_slower_feed(self):
        net, laying = in_a_row(("in", "x", 0), ("in", "z", 0), ("not", 1), ("not", 2), ("or", 0, 3), ("box", "c", 0, 4))
        self.tells(net, laying, "c", 4, [(1, 2, 3, 4, 5)], delays=(0, 1, 2))
        self.tells(net, laying, "c", 1 * 5 + 2, [(0, 4, 5)], delays=(1, 0, 2))

    def test_the_time_of_each_clock(self):
        net, laying = in_a_row(("in", "x", 0), ("box", "c", 0, 0), ("not", 0), ("box", "d", 0, 2), ("not", 2),
                               ("box", "e", 0, 4), ("box", "c", 0, 1), ("box", "d", 0, 6))
        for clock, time, paths in (("c", 5, [(1, 6)]), ("d", 4, [(0, 2, 3)]), ("e", 7, [(0, 2, 4, 5)]), ("f", 0, [()])):
            self.tells(net, laying, clock, time, paths, delays=(1, 1, 1))
            self.assertEqual(slowest(net, laying, clock)[2], slowest(net, laying, "zz")[2])

    def test_no_box_between(self):
        net, laying = in_a_row(("in", "x", 0), ("not", 0), ("box", "c", 0, 1), ("not", 2), ("box", "c", 0, 3))
        self.tells(net, laying, "c", 3, [(0, 1, 2), (2, 3, 4)], delays=(1, 1, 1))

    def test_a_box_that_feeds_itself(self):
        net, laying = in_a_row(("box", "c", 1, 0))
        self.tells(net, laying, "c", 0, [(0, 0)])
        net = ((("box", "c", 1, 0), ("box", "c", 1, 0)), (), ())
        laying = (((0, 0), (0, 1)), ((((0, 0), (1, 0), (1, 1), (0, 1), (0, 0)),), (((0, 0), (0, 1)),)))
        self.tells(net, laying, "c", 4, [(0, 0)])
        laying = (((0, 0), (0, 1)), ((((0, 0),),), (((0, 0), (0, 1)),)))
        self.tells(net, laying, "c", 1, [(0, 1)])

    def test_a_box_round_through_gates_to_itself(self):
        net, laying = in_a_row(("box", "c", 1, 1), ("not", 0))
        self.tells(net, laying, "c", 1 + 2 + 1, [(0, 1, 0)])

    def test_a_clock_that_no_box_has(self):
        net, laying = in_a_row(("in", "x", 0), ("not", 0), ("box", "d", 0, 1))
        self.assertEqual(repr(slowest(net, laying, "c")), repr((0, (), (0, 3, 0))))
        self.assertEqual(repr(slowest(((), (), ()), ((), ()), "c")), repr((0, (), ())))

    def test_an_in_called_as_the_clock(self):
        net, laying = in_a_row(("in", "c", 0), ("not", 0), ("box", "d", 0, 1))
        self.assertEqual(slowest(net, laying, "c"), (0, (), (0, 3, 0)))

    def test_a_gate_with_one_feed_by_two_ways(self):
        net = ((("in", "x", 0), ("xor", 0, 0), ("box", "c", 0, 1)), (), ())
        cells = ((0, 0), (0, 1), (0, 2))
        short, long = ((0, 0), (0, 1)), ((0, 0), (1, 0), (1, 1), (0, 1))
        for ways in ((short, long), (long, short), (long, long)):
            laying = (cells, ((), ways, (((0, 1), (0, 2)),)))
            self.tells(net, laying, "c", 3 + 3 + 1, [(0, 1, 2)])
        self.tells(net, (cells, ((), (short, short), (((0, 1), (0, 2)),))), "c", 1 + 3 + 1, [(0, 1, 2)])

    def test_the_way_to_the_box_counts(self):
        net = ((("in", "x", 0), ("not", 0), ("box", "c", 0, 1), ("box", "c", 0, 0)), (), ())
        cells = ((0, 0), (0, 1), (0, 2), (1, 0))
        laying = (cells, ((), (((0, 0), (0, 1)),), (((0, 1), (0, 2)),), (((0, 0), (1, 0)),)))
        self.tells(net, laying, "c", 4, [(0, 1, 2)])
        round_way = ((0, 0), (1, 0)) * 3
        laying = (cells, ((), (((0, 0), (0, 1)),), (((0, 1), (0, 2)),), (round_way,)))
        self.tells(net, laying, "c", 5, [(0, 3)])

    def test_delays(self):
        net, laying = in_a_row(("in", "x", 0), ("not", 0), ("and", 0, 1), ("box", "c", 0, 2))
        self.assertEqual(slowest(net, laying, "c"), slowest(net, laying, "c", delays=(1, 2, 3)))
        self.assertEqual(slowest(net, laying, "c", delays=(0, 0, 0))[0], 0)
        self.assertEqual(slowest(net, laying, "c", delays=(1000, 1000, 1000))[0], 5000)
        with self.assertRaises(TypeError):
            slowest(net, laying, "c", (1, 2, 3))
        self.assertEqual(slowest(net=net, laying=laying, clock="c", delays=(1, 2, 3)), slowest(net, laying, "c"))

    def test_a_box_that_beats_late_though_all_is_nought(self):
        net, laying = in_a_row(("in", "x", 0), ("not", 0), ("box", "c", 0, 1))
        self.tells(net, laying, "c", 0, [(0, 1, 2)], delays=(0, 0, 0))

    def test_of_a_net_the_gates_alone(self):
        net, laying = in_a_row(("in", "x", 0), ("box", "c", 0, 0))
        other = (net[0], (("x", 0, ("gone",)), ("b", 0, ("is", 1))), ("b",))
        self.assertEqual(slowest(other, laying, "c"), slowest(net, laying, "c"))

    def test_of_each_flat(self):
        for name, flat in FLATS.items():
            net = net_of(flat)
            for table in ((20, 20), (1, 60), (9, 7)):
                laying = laid(net, table)
                for clock in ("c", "d", "e"):
                    for delays in (DELAYS, (0, 0, 0), (5, 1, 0), (0, 3, 100)):
                        with self.subTest(name, table=table, clock=clock):
                            self.is_one(net[0], laying[1], clock, slowest(net, laying, clock, delays=delays), delays)

    def test_a_long_chain(self):
        net, laying = in_a_row(("in", "x", 0), *[("not", k) for k in range(800)], ("box", "c", 0, 800))
        self.tells(net, laying, "c", 800 * 3 + 1, [tuple(range(802))])


if __name__ == "__main__":
    unittest.main()
