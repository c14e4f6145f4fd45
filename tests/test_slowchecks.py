"""Point 16, its end: whether a thing tells the slowest way of a clock."""

import itertools
import unittest

from tests.asking import FLATS, OTHERS, altered
from wiretongue.kinds import DELAYS
from wiretongue.laying import laid
from wiretongue.nets import net_of
from wiretongue.slowchecks import slowest_holds
from wiretongue.slowest import slowest

# An in, straight to a box, and through two gates to another box; beside these a gate to a
# box of another clock. All stand in one row, so a way from gate to gate is as long as their
# numbers are apart.
GATES = (("in", "x", 0), ("is", 1), ("not", 0), ("and", 2, 1), ("box", "c", 0, 0), ("box", "c", 1, 3),
         ("or", 4, 5), ("box", "d", 0, 6))
NET = (GATES, (), ())
LAYING = laid(NET, (1, 8))
# A not arrives at 2 and 10, an and one step later and 100.
RIGHT = (115, (0, 2, 3, 5), (0, 0, 12, 113, 0, 0, 102, 0))
TELLING = (1, 10, 100)


def is_formed(thing, many):
    """Whether a thing is whole numbers of the right kinds and many, in tuples."""
    if thing.__class__ is not tuple or len(thing) != 3 or {part.__class__ for part in thing[1:]} != {tuple}:
        return False
    time, path, arrivals = thing
    numbers = (time, *path, *arrivals)
    return (all(number.__class__ is int and number >= 0 for number in numbers) and len(arrivals) == many
            and all(g < many for g in path))


def reckoned(gates, ways, clock, thing, delays):
    """What slowest_holds is to tell of a thing formed as it should be, reckoned by all its words."""
    step, one, two = delays
    time, path, arrivals = thing
    own = {"not": one, "and": two, "or": two, "xor": two}
    feeds = [gate[1:] if gate[0] in own else gate[3:] for gate in gates]
    feeds = [feeds[g] if gates[g][0] in own or gates[g][0] == "box" else () for g in range(len(gates))]
    for g, gate in enumerate(gates):
        for feed, way in zip(feeds[g], ways[g]):
            brought = arrivals[feed] + step * (len(way) - 1)
            if gate[0] in own and arrivals[g] < brought + own[gate[0]]:
                return False
            if gate[:2] == ("box", clock) and time < brought:
                return False
    if path == ():
        return time == 0 and all(gate[:2] != ("box", clock) for gate in gates)
    if len(path) < 2 or gates[path[0]][0] in own or gates[path[-1]][:2] != ("box", clock):
        return False
    took = 0
    for feed, g in zip(path, path[1:]):
        if feed not in feeds[g] or (g != path[-1] and gates[g][0] == "box"):
            return False
        took += max(step * (len(way) - 1) for way, fed in zip(ways[g], feeds[g]) if fed == feed)
        took += own.get(gates[g][0], 0)
    return took == time and all(gates[g][0] in own for g in path[1:-1])


class SlowestHolds(unittest.TestCase):
    def holds(self, told, thing, net=NET, laying=LAYING, clock="c", delays=TELLING):
        self.assertIs(slowest_holds(net, laying, clock, thing, delays=delays), told, repr(thing)[:200])

    def with_time(self, time):
        return (time, *RIGHT[1:])

    def with_path(self, *path):
        return (RIGHT[0], path, RIGHT[2])

    def with_arrival(self, g, arrival):
        return (*RIGHT[:2], (*RIGHT[2][:g], arrival, *RIGHT[2][g + 1:]))

    def test_what_slowest_tells(self):
        self.assertEqual(slowest(NET, LAYING, "c", delays=TELLING), RIGHT)
        self.holds(True, RIGHT)
        for name, flat in FLATS.items():
            net = net_of(flat)
            for table, clock, delays in itertools.product(((20, 20), (1, 60)), "cde", (DELAYS, (0, 0, 0), (5, 1, 0))):
                laying = laid(net, table)
                told = slowest(net, laying, clock, delays=delays)
                with self.subTest(name, table=table, clock=clock, delays=delays):
                    self.holds(True, told, net, laying, clock, delays)
                    self.holds(False, (told[0] + 1, *told[1:]), net, laying, clock, delays)

    def test_arrivals_later_than_they_need_be(self):
        # The or is on no way to a box of c, the not's own time may grow till the and is as late.
        self.holds(True, self.with_arrival(6, 1000))
        self.holds(True, self.with_arrival(6, 10 ** 39))
        # What brings the time of a box beyond the one told isn't so.
        self.holds(False, self.with_arrival(3, 114))
        self.holds(False, self.with_arrival(2, 13))

    def test_arrivals_of_ins_is_and_boxes(self):
        self.holds(True, self.with_arrival(1, 11))
        self.holds(False, self.with_arrival(1, 12))
        self.holds(True, self.with_arrival(7, 10 ** 20))
        self.holds(True, self.with_arrival(4, 0))
        self.holds(False, self.with_arrival(4, 1))
        self.holds(True, (*RIGHT[:2], (0, 0, 12, 113, 7, 0, 109, 0)))
        self.holds(False, self.with_arrival(0, 1))
        net = ((("in", "x", 0), ("is", 0), ("box", "c", 0, 1)), (), ())
        for arrival in (0, 1, 5):
            self.holds(True, (1, (1, 2), (arrival, 0, arrival)), net, laid(net, (1, 3)))

    def test_arrivals_ahead_of_what_feeds_bring(self):
        for g in (2, 3, 6):
            self.holds(False, self.with_arrival(g, RIGHT[2][g] - 1))
            self.holds(False, self.with_arrival(g, 0))
        # Of either feed: the first and the second one may be the later.
        for word in ("and", "or", "xor"):
            for feeds in ((0, 2), (2, 0)):
                net = ((("in", "x", 0), ("is", 0), ("not", 1), (word, *feeds), ("box", "c", 0, 3)), (), ())
                laying = laid(net, (1, 5))
                self.holds(True, (7, (1, 2, 3, 4), (0, 0, 2, 6, 0)), net, laying, "c", (1, 1, 3))
                self.holds(False, (6, (1, 2, 3, 4), (0, 0, 2, 5, 0)), net, laying, "c", (1, 1, 3))
                self.holds(False, (6, (0, 3, 4), (0, 0, 2, 5, 0)), net, laying, "c", (1, 1, 3))

    def test_each_number_below_nought(self):
        for g in range(len(GATES)):
            self.holds(False, self.with_arrival(g, -1))
        self.holds(False, self.with_time(-1))
        self.holds(False, self.with_path(-8, 2, 3, 5))
        self.holds(False, self.with_path(0, -6, 3, 5))
        self.holds(False, self.with_path(0, 2, 3, -3))

    def test_the_time(self):
        for time in (114, 116, 0, 10 ** 30):
            self.holds(False, self.with_time(time))

    def test_another_path(self):
        for path in ((0, 4), (1, 3, 5), (2, 3, 5), (0, 2, 3), (0, 2, 5), (0, 3, 5), (5,), (0,), (), (5, 3, 2, 0),
                     (0, 2, 3, 5, 5), (0, 0, 2, 3, 5), (0, 2, 2, 3, 5), (5, 6, 7), (4, 6, 7), (0, 2, 3, 5, 6, 7),
                     (0, 2, 3, 8), (0, 2, 3, 4), (1, 2, 3, 5), (3, 5)):
            self.holds(False, self.with_path(*path))

    def test_a_path_whose_own_time_is_due_but_that_is_none(self):
        # From gate to gate a step, no delays: each of these takes just the time told.
        net = ((("in", "x", 0), ("not", 0), ("box", "c", 0, 1), ("not", 2), ("box", "c", 0, 3)), (), ())
        laying = laid(net, (1, 5))
        arrivals = (0, 1, 0, 1, 0)
        for path, told in (((0, 1, 2), True), ((2, 3, 4), True), ((0, 1, 2, 3, 4), False), ((1, 2), False),
                           ((0, 1), False), ((2, 1, 0), False), ((0, 1, 4), False), ((0, 3, 4), False)):
            self.holds(told, (2, path, arrivals), net, laying, "c", (1, 0, 0))
        # No steps and no delays: nothing but the path tells.
        for path in itertools.chain(*[itertools.product(range(5), repeat=many) for many in range(5)]):
            self.holds(path in ((0, 1, 2), (2, 3, 4)), (0, path, (0,) * 5), net, laying, "c", (0, 0, 0))

    def test_through_a_box_of_any_clock(self):
        for clock in "cd":
            net = ((("in", "x", 0), ("box", clock, 0, 0), ("box", "c", 0, 1)), (), ())
            laying = (((0, 0), (0, 1), (0, 2)), ((), (((0, 0), (0, 1)),), (((0, 1), (0, 2), (0, 1), (0, 2)),)))
            self.holds(True, (3, (1, 2), (0, 0, 0)), net, laying)
            self.holds(False, (4, (0, 1, 2), (0, 0, 0)), net, laying)

    def test_a_box_of_another_clock(self):
        self.holds(True, (103, (4, 6, 7), RIGHT[2]), clock="d", delays=TELLING)
        self.holds(False, (103, (4, 6, 7), RIGHT[2]))
        self.holds(False, RIGHT, clock="d")
        self.holds(False, RIGHT, clock="e")

    def test_another_path_that_is_as_late(self):
        net = ((("in", "x", 0), ("not", 0), ("not", 0), ("or", 1, 2), ("box", "c", 0, 3)), (), ())
        cells = ((0, 0), (0, 1), (1, 0), (1, 1), (1, 2))
        ways = ((), (((0, 0), (0, 1)),), (((0, 0), (1, 0)),), (((0, 1), (1, 1)), ((1, 0), (1, 1))), (((1, 1), (1, 2)),))
        for path in ((0, 1, 3, 4), (0, 2, 3, 4)):
            self.holds(True, (8, path, (0, 3, 3, 7, 0)), net, (cells, ways), "c", (1, 2, 3))
        self.holds(False, (8, (0, 3, 4), (0, 3, 3, 7, 0)), net, (cells, ways), "c", (1, 2, 3))

    def test_no_box_has_the_clock(self):
        self.holds(True, (0, (), RIGHT[2]), clock="e")
        self.holds(False, (1, (), RIGHT[2]), clock="e")
        self.holds(False, (0, (0, 4), RIGHT[2]), clock="e")
        self.holds(False, (0, [], RIGHT[2]), clock="e")
        self.holds(False, (False, (), RIGHT[2]), clock="e")
        self.holds(False, (None, (), RIGHT[2]), clock="e")
        self.holds(True, (0, (), ()), ((), (), ()), ((), ()))
        self.holds(False, (0, (), (0,)), ((), (), ()), ((), ()))
        self.holds(False, (0, (), RIGHT[2]))

    def test_no_path_where_a_box_has_the_clock(self):
        net = ((("is", 0), ("box", "c", 0, 1)), (), ())
        laying = laid(net, (1, 2))
        self.holds(True, (0, (1, 1), (0, 0)), net, laying)
        self.holds(False, (0, (), (0, 0)), net, laying)
        self.holds(False, (5, (), (0, 0)), net, laying)

    def test_a_gate_whose_feeds_are_one_gate(self):
        net = ((("in", "x", 0), ("xor", 0, 0), ("box", "c", 0, 1)), (), ())
        cells = ((0, 0), (0, 1), (0, 2))
        short, long = ((0, 0), (0, 1)), ((0, 0), (1, 0), (1, 1), (0, 1))
        for ways in ((short, long), (long, short), (long, long)):
            laying = (cells, ((), ways, (((0, 1), (0, 2)),)))
            self.holds(True, (7, (0, 1, 2), (0, 6, 0)), net, laying, "c", (1, 2, 3))
            self.holds(False, (5, (0, 1, 2), (0, 4, 0)), net, laying, "c", (1, 2, 3))
            self.holds(False, (5, (0, 1, 2), (0, 6, 0)), net, laying, "c", (1, 2, 3))
        laying = (cells, ((), (short, short), (((0, 1), (0, 2)),)))
        self.holds(True, (5, (0, 1, 2), (0, 4, 0)), net, laying, "c", (1, 2, 3))
        self.holds(False, (7, (0, 1, 2), (0, 6, 0)), net, laying, "c", (1, 2, 3))

    def test_a_box_that_feeds_itself(self):
        net = ((("box", "c", 1, 0),), (), ())
        self.holds(True, (0, (0, 0), (0,)), net, (((0, 0),), ((((0, 0),),),)))
        self.holds(False, (0, (0,), (0,)), net, (((0, 0),), ((((0, 0),),),)))
        self.holds(False, (0, (), (0,)), net, (((0, 0),), ((((0, 0),),),)))
        self.holds(False, (0, (0, 0, 0), (0,)), net, (((0, 0),), ((((0, 0),),),)))
        round_way = ((0, 0), (0, 1), (0, 0))
        self.holds(True, (2, (0, 0), (0,)), net, (((0, 0),), (((round_way),),)))
        self.holds(False, (0, (0, 0), (0,)), net, (((0, 0),), (((round_way),),)))
        self.holds(False, (2, (0, 0), (1,)), net, (((0, 0),), (((round_way),),)))

    def test_arrivals_too_few_and_too_many(self):
        self.holds(False, (*RIGHT[:2], RIGHT[2][:-1]))
        self.holds(False, (*RIGHT[:2], RIGHT[2] + (0,)))
        self.holds(False, (*RIGHT[:2], ()))

    def test_other_kinds(self):
        time, path, arrivals = RIGHT
        for thing in (list(RIGHT), (time, list(path), arrivals), (time, path, list(arrivals)), (time, path),
                      (*RIGHT, 0), (str(time), path, arrivals), (time, str(path), arrivals),
                      (time, path, {g: 0 for g in range(8)}), (time, arrivals, path), (path, time, arrivals)):
            self.holds(False, thing)
        for thing in OTHERS:
            self.holds(False, thing)
            self.holds(False, (thing, path, arrivals))
            self.holds(False, (time, thing, arrivals))
            self.holds(False, (time, path, thing))
            for g in range(8):
                self.holds(thing == 10 ** 39 and g in (6, 7), self.with_arrival(g, thing))
            for k in range(4):
                self.holds(False, (time, (*path[:k], thing, *path[k + 1:]), arrivals))

    def test_truths_in_the_place_of_numbers(self):
        net = ((("is", 0), ("box", "c", 0, 0)), (), ())
        laying = laid(net, (1, 2))
        self.holds(True, (1, (0, 1), (0, 0)), net, laying)
        self.holds(False, (True, (0, 1), (0, 0)), net, laying)
        self.holds(False, (1, (False, 1), (0, 0)), net, laying)
        self.holds(False, (1, (0, True), (0, 0)), net, laying)
        self.holds(False, (1, (0, 1), (False, 0)), net, laying)
        self.holds(False, (1, (0, 1), (0, True)), net, laying)

    def test_delays(self):
        told = slowest(NET, LAYING, "c")
        self.assertIs(slowest_holds(NET, LAYING, "c", told), True)
        self.assertIs(slowest_holds(NET, LAYING, "c", told, delays=(1, 2, 3)), True)
        self.assertIs(slowest_holds(NET, LAYING, "c", told, delays=(1, 2, 4)), False)
        self.assertIs(slowest_holds(NET, LAYING, "c", told, delays=(1, 3, 3)), False)
        self.assertIs(slowest_holds(NET, LAYING, "c", told, delays=(2, 2, 3)), False)
        self.assertIs(slowest_holds(net=NET, laying=LAYING, clock="c", thing=told, delays=(1, 2, 3)), True)
        self.holds(True, (0, (0, 4), (0,) * 8), delays=(0, 0, 0))
        self.holds(True, (0, (0, 2, 3, 5), (0,) * 8), delays=(0, 0, 0))
        self.holds(False, (0, (0, 2, 3), (0,) * 8), delays=(0, 0, 0))
        with self.assertRaises(TypeError):
            slowest_holds(NET, LAYING, "c", told, (1, 2, 3))

    def test_of_a_net_the_gates_alone(self):
        other = (GATES, (("x", 0, ("gone",)),), ("b",))
        self.holds(True, RIGHT, net=other)

    def test_each_thing_put_otherwise(self):
        for name, flat in FLATS.items():
            net = net_of(flat)
            laying = laid(net, (9, 9))
            told = slowest(net, laying, "c", delays=(1, 1, 1))
            for thing in altered(told):
                due = is_formed(thing, len(net[0])) and reckoned(net[0], laying[1], "c", thing, (1, 1, 1))
                with self.subTest(name, thing=repr(thing)[:80]):
                    self.holds(due, thing, net, laying, "c", (1, 1, 1))

    def test_soon(self):
        many = 3000
        net = ((("in", "x", 0), *[("xor", k, k) for k in range(many)], ("box", "c", 0, many)), (), ())
        laying = laid(net, (60, 60))
        told = slowest(net, laying, "c")
        self.holds(True, told, net, laying, "c", DELAYS)
        self.holds(False, (told[0], told[1][:-2] + told[1][-1:], told[2]), net, laying, "c", DELAYS)
        self.holds(False, (1, (0,) * 119_000, (0,)), net, laying)
        self.holds(False, (1, (0, 1), (0,) * 119_000), net, laying)


if __name__ == "__main__":
    unittest.main()
