"""Point 15: a net laid on a table."""

import unittest

from tests.asking import FLATS, is_plain, refused
from wiretongue.errors import NoRoom
from wiretongue.laychecks import laid_holds
from wiretongue.laying import laid
from wiretongue.nets import net_of


def feeds(gate):
    return {"not": gate[1:], "and": gate[1:], "or": gate[1:], "xor": gate[1:], "box": gate[3:]}.get(gate[0], ())


def net_with(*gates):
    return (tuple(gates), (), ())


def chained(many):
    """A net of so many gates, each of several ahead of it, some boxes between."""
    gates = [("in", "x", 0)]
    for g in range(1, many):
        gates.append((("not", g - 1), ("and", g // 2, g - 1), ("box", "c", 0, many - g), ("xor", 0, g - 1),
                      ("box", "d", 1, g))[g % 5])
    return (tuple(gates), (), ())


class Laid(unittest.TestCase):
    def lays(self, net, table):
        told = laid(net, table)
        self.assertTrue(is_plain(told))
        cells, ways = told
        self.assertEqual(len(cells), len(net[0]))
        self.assertEqual(len(set(cells)), len(cells))
        for row, column in cells:
            self.assertTrue(0 <= row < table[0] and 0 <= column < table[1], (row, column))
        self.assertEqual(len(ways), len(net[0]))
        for g, gate in enumerate(net[0]):
            self.assertEqual(len(ways[g]), len(feeds(gate)))
            for way, feed in zip(ways[g], feeds(gate)):
                self.is_shortest(way, cells[feed], cells[g], table)
        self.assertIs(laid_holds(net, table, told), True)
        return told

    def is_shortest(self, way, start, end, table):
        self.assertEqual((way[0], way[-1]), (start, end))
        self.assertEqual(len(way), 1 + abs(start[0] - end[0]) + abs(start[1] - end[1]))
        for one, other in zip(way, way[1:]):
            self.assertEqual(abs(one[0] - other[0]) + abs(one[1] - other[1]), 1)
        self.assertTrue(all(0 <= row < table[0] and 0 <= column < table[1] for row, column in way))

    def test_a_net_without_gates(self):
        self.assertEqual(repr(laid(net_with(), (1, 1))), "((), ())")
        self.assertEqual(laid(net_with(), (30, 30)), ((), ()))

    def test_one_gate(self):
        self.assertEqual(self.lays(net_with(("is", 1)), (1, 1)), (((0, 0),), ((),)))

    def test_tables_just_great_enough(self):
        for rows, columns in ((1, 12), (12, 1), (3, 4), (4, 3), (2, 6), (6, 2)):
            self.lays(chained(12), (rows, columns))
            self.lays(chained(11), (rows, columns))

    def test_thirty_by_thirty(self):
        self.lays(chained(320), (30, 30))
        self.lays(chained(900), (30, 30))
        self.lays(chained(30), (1, 30))
        self.lays(chained(30), (30, 1))

    def test_a_net_of_each_flat(self):
        for name, flat in FLATS.items():
            net = net_of(flat)
            many = max(1, len(net[0]))
            for table in ((1, many), (many, 1), (20, 20), (7, 9)):
                with self.subTest(name, table=table):
                    self.lays(net, table)

    def test_a_box_that_feeds_itself(self):
        cells, ways = self.lays(net_with(("is", 0), ("box", "c", 1, 1)), (2, 3))
        self.assertEqual(ways[1], ((cells[1],),))

    def test_a_gate_with_the_same_feed_twice(self):
        _, ways = self.lays(net_with(("in", "x", 0), ("is", 0), ("and", 0, 0)), (3, 3))
        self.assertEqual(len(ways[2]), 2)

    def test_ways_in_the_order_of_the_feeds(self):
        cells, ways = self.lays(net_with(("in", "x", 0), ("in", "z", 0), ("or", 1, 0)), (1, 9))
        self.assertEqual((ways[2][0][0], ways[2][1][0]), (cells[1], cells[0]))

    def test_a_box_fed_by_one_behind_it(self):
        self.lays(net_with(("box", "c", 1, 2), ("in", "x", 0), ("not", 1)), (2, 2))

    def test_no_room(self):
        for many, table in ((12, (1, 11)), (12, (11, 1)), (13, (3, 4)), (901, (30, 30)), (2, (1, 1)),
                            (3000, (30, 30))):
            self.assertEqual(repr(refused(NoRoom, laid, chained(many), table).many), repr(many))

    def test_the_same_is_told_again(self):
        net = chained(40)
        first = laid(net, (7, 6))
        laid(chained(5), (2, 3))
        self.assertEqual(laid(net=net, table=(7, 6)), first)


if __name__ == "__main__":
    unittest.main()
