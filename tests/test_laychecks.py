"""Point 15: whether a thing is a laying, and a joined paper."""

import unittest

from tests.asking import FLATS
from wiretongue.laychecks import joined_holds, laid_holds
from wiretongue.laying import laid
from wiretongue.nets import net_of

GATES = (("in", "x", 0), ("box", "c", 1, 1), ("and", 0, 1), ("box", "c", 0, 2), ("not", 3), ("is", 1))
NET = (GATES, (), ())
TABLE = (3, 4)
CELLS = ((0, 0), (0, 2), (1, 1), (2, 1), (2, 3), (1, 3))
WAYS = (
    (),
    (((0, 2),),),
    (((0, 0), (0, 1), (1, 1)), ((0, 2), (0, 1), (1, 1))),
    (((1, 1), (2, 1)),),
    (((2, 1), (2, 2), (2, 3)),),
    (),
)
OTHERS = (None, True, False, 0, 1, "", "cells", (), ((),), [], {}, {0: 1}, ((), ()), -1, 10 ** 39, (None,), ([],))


def cells_but(g, cell):
    return CELLS[:g] + (cell,) + CELLS[g + 1:]


def ways_but(g, *ways):
    return WAYS[:g] + (ways,) + WAYS[g + 1:]


class Asked(unittest.TestCase):
    def holds(self, thing, net=NET, table=TABLE):
        self.assertIs(laid_holds(net, table, thing), True, thing)

    def fails(self, thing, net=NET, table=TABLE):
        self.assertIs(laid_holds(net, table, thing), False, thing)


class Holds(Asked):
    def test_as_it_is(self):
        self.holds((CELLS, WAYS))
        self.holds((CELLS, WAYS), table=(30, 30))
        self.holds(((), ()), ((), (), ()), (1, 1))

    def test_of_a_net_the_gates_alone(self):
        self.holds((CELLS, WAYS), (GATES, (("x", 0, ("gone",)),), ("y",)))

    def test_what_is_told_here(self):
        for name, flat in FLATS.items():
            net = net_of(flat)
            for table in ((20, 20), (5, 30)):
                with self.subTest(name):
                    self.holds(laid(net, table), net, table)

    def test_ways_that_go_round(self):
        self.holds((CELLS, ways_but(3, ((1, 1), (1, 0), (2, 0), (2, 1)))))
        self.holds((CELLS, ways_but(4, ((2, 1), (1, 1), (1, 2), (1, 3), (2, 3)))))

    def test_ways_that_come_by_a_cell_twice(self):
        self.holds((CELLS, ways_but(3, ((1, 1), (2, 1), (1, 1), (2, 1)))))
        self.holds((CELLS, ways_but(4, ((2, 1), (2, 2), (1, 2), (1, 1), (2, 1), (2, 2), (2, 3)))))

    def test_ways_that_cross(self):
        self.holds((CELLS, ways_but(2, ((0, 0), (0, 1), (0, 2), (0, 1), (1, 1)), ((0, 2), (1, 2), (0, 2), (0, 1), (1, 1)))))

    def test_from_a_box_round_to_itself(self):
        self.holds((CELLS, ways_but(1, ((0, 2), (0, 3), (0, 2)))))
        self.holds((CELLS, ways_but(1, ((0, 2), (0, 3), (1, 3), (1, 2), (0, 2)))))

    def test_a_gate_with_the_same_feed_twice(self):
        net = ((("in", "x", 0), ("and", 0, 0)), (), ())
        short, long = ((0, 0), (0, 1)), ((0, 0), (1, 0), (1, 1), (0, 1))
        for one in (short, long):
            for other in (short, long):
                self.holds((short, ((), (one, other))), net, (2, 2))
        self.fails((short, ((), (short,))), net, (2, 2))

    def test_the_table_may_be_just_so_great(self):
        net = ((("in", "x", 0), ("in", "z", 0)), (), ())
        self.holds((((0, 0), (0, 1)), ((), ())), net, (1, 2))
        self.holds((((1, 0), (0, 0)), ((), ())), net, (2, 1))
        self.fails((((0, 0), (0, 1)), ((), ())), net, (2, 1))
        self.fails((((1, 0), (0, 0)), ((), ())), net, (1, 2))


class Fails(Asked):
    def test_two_gates_on_one_cell(self):
        self.fails((cells_but(5, (2, 3)), WAYS))
        self.fails((cells_but(5, (0, 0)), WAYS))
        self.fails((((0, 0), (0, 0)), ((), ())), ((("is", 0), ("is", 1)), (), ()))

    def test_cells_beyond_the_table(self):
        for cell in ((3, 3), (1, 4), (-1, 3), (1, -1), (10 ** 39, 0), (0, 10 ** 39)):
            self.fails((cells_but(5, cell), WAYS))
        for way in (((2, 1), (3, 1), (3, 2), (3, 3), (2, 3)),
                    ((2, 1), (2, 2), (2, 3), (2, 4), (2, 3))):
            self.fails((CELLS, ways_but(4, way)))
            self.holds((CELLS, ways_but(4, way)), table=(4, 5))
        for way in (((0, 2), (-1, 2), (0, 2)), ((0, 2), (0, 1), (0, 0), (0, -1), (0, 0), (0, 1), (0, 2))):
            self.fails((CELLS, ways_but(1, way)))

    def test_ways_that_begin_or_end_elsewhere(self):
        for way in (((0, 1), (1, 1), (2, 1)), ((1, 1), (2, 1), (2, 2)), ((2, 1),), ((1, 1),), ((2, 1), (1, 1)),
                    ((1, 0), (2, 0), (2, 1)), ()):
            self.fails((CELLS, ways_but(3, way)))
        self.fails((CELLS, ways_but(1, ((0, 1),))))
        self.fails((CELLS, ways_but(1, ((0, 2), (0, 3)))))
        self.fails((CELLS, ways_but(1, ((0, 3), (0, 2)))))
        self.fails((CELLS, ways_but(1, ())))

    def test_ways_of_both_feeds_exchanged(self):
        self.fails((CELLS, ways_but(2, *WAYS[2][::-1])))
        self.fails((CELLS, ways_but(2, WAYS[2][0], WAYS[2][0])))

    def test_ways_that_leap_or_stand(self):
        for way in (((2, 1), (2, 3)), ((2, 1), (2, 1), (2, 2), (2, 3)), ((2, 1), (2, 2), (2, 2), (2, 3)),
                    ((2, 1), (1, 2), (2, 3)), ((2, 1), (2, 2), (2, 3), (2, 3))):
            self.fails((CELLS, ways_but(4, way)))
        self.fails((CELLS, ways_but(1, ((0, 2), (0, 2)))))

    def test_too_few_or_too_many(self):
        self.fails((CELLS[:-1], WAYS))
        self.fails((CELLS + ((0, 3),), WAYS))
        self.fails((CELLS, WAYS[:-1]))
        self.fails((CELLS, WAYS + ((),)))
        self.fails((CELLS[:-1], WAYS[:-1]))
        self.fails((CELLS + ((0, 3),), WAYS + ((),)))
        for g in range(6):
            self.fails((CELLS, ways_but(g, *WAYS[g], ((0, 0),))))
            self.fails((CELLS, ways_but(g, *WAYS[g], CELLS[g:g + 1])))
            if WAYS[g]:
                self.fails((CELLS, ways_but(g, WAYS[g][0], *WAYS[g])))
                self.fails((CELLS, ways_but(g, *WAYS[g][1:])))
                self.fails((CELLS, ways_but(g)))
        self.fails((CELLS, WAYS, ()))
        self.fails((CELLS,))
        self.fails((CELLS[:2] + ((1, 1, 0),) + CELLS[3:], WAYS))
        self.fails((CELLS[:5] + ((1,),), WAYS))

    def test_truths_in_the_place_of_numbers(self):
        for g, cell in ((0, (False, 0)), (0, (0, False)), (2, (True, 1)), (2, (1, True)), (5, (True, 3))):
            self.fails((cells_but(g, cell), WAYS))
        self.fails((CELLS, ways_but(3, ((True, 1), (2, 1)))))
        self.fails((CELLS, ways_but(3, ((1, 1), (2, True)))))
        self.fails((CELLS, ways_but(2, ((0, 0), (False, 1), (1, 1)), WAYS[2][1])))

    def test_lists_in_the_place_of_tuples(self):
        self.fails([CELLS, WAYS])
        self.fails((list(CELLS), WAYS))
        self.fails((CELLS, list(WAYS)))
        self.fails((cells_but(5, [1, 3]), WAYS))
        self.fails((CELLS, WAYS[:5] + ([],)))
        self.fails((CELLS, WAYS[:3] + ([WAYS[3][0]],) + WAYS[4:]))
        self.fails((CELLS, ways_but(3, [(1, 1), (2, 1)])))
        self.fails((CELLS, ways_but(3, ([1, 1], (2, 1)))))
        self.fails((CELLS, ways_but(4, ((2, 1), [2, 2], (2, 3)))))

    def test_things_of_other_kinds(self):
        for thing in OTHERS:
            self.fails(thing)
            self.fails((thing, WAYS))
            self.fails((CELLS, thing))
            self.fails((cells_but(5, thing), WAYS))
            if repr(thing) != "0":
                self.fails((cells_but(5, (1, thing)), WAYS))
            self.fails((CELLS, WAYS[:3] + (thing,) + WAYS[4:]))
            self.fails((CELLS, ways_but(3, thing)))
            self.fails((CELLS, ways_but(4, ((2, 1), thing, (2, 3)))))
            if thing != ((), ()):
                self.fails(thing, ((), (), ()), (3, 3))

    def test_of_a_net_without_gates(self):
        for thing in ([(), ()], ([], ()), ((), []), ((),), ((), (), ()), (((0, 0),), ()), ((), ((),))):
            self.fails(thing, ((), (), ()))


class Joined(unittest.TestCase):
    flat = FLATS["counter"]
    net = net_of(flat)
    laying = laid(net, (7, 8))

    def joins(self, thing, right, flat=None, table=(7, 8)):
        self.assertIs(joined_holds(flat or self.flat, table, thing), right)

    def test_what_is_told_here(self):
        for flat in FLATS.values():
            net = net_of(flat)
            self.assertIs(joined_holds(flat, (9, 9), (net, laid(net, (9, 9)))), True)
        self.joins((self.net, self.laying), True)
        self.joins((self.net, self.laying), True, table=(30, 30))

    def test_where_the_net_does_not_hold(self):
        gates, traces, outs = self.net
        words = {"and": "or", "or": "xor", "xor": "and"}
        for g, gate in enumerate(gates):
            if gate[0] in words:
                other = gates[:g] + ((words[gate[0]], *gate[1:]),) + gates[g + 1:]
                self.assertIs(laid_holds((other, traces, outs), (7, 8), self.laying), True)
                self.joins(((other, traces, outs), self.laying), False)
        self.joins(((list(gates), traces, outs), self.laying), False)
        self.joins(((gates, traces[:-1], outs), self.laying), False)
        self.joins((self.net, self.laying), False, flat=FLATS["crossed"])

    def test_where_the_laying_does_not_hold(self):
        cells, ways = self.laying
        self.joins((self.net, (cells[::-1], ways)), False)
        self.joins((self.net, (cells, ways[:-1])), False)
        self.joins((self.net, (list(cells), ways)), False)
        self.joins((self.net, self.laying), False, table=(7, 7))
        self.joins((self.net, self.laying), False, table=(1, 1))

    def test_where_the_laying_is_that_of_another_net(self):
        gates, traces, outs = self.net
        other = net_of(FLATS["crossed"])
        self.joins((self.net, laid(other, (7, 8))), False)
        more = (gates + (("is", 0),), traces, outs)
        self.joins((more, laid(more, (7, 8))), True)
        self.joins((more, self.laying), False)
        self.joins((self.net, laid(more, (7, 8))), False)

    def test_things_of_other_kinds(self):
        for thing in OTHERS:
            self.joins(thing, False)
            self.joins((thing, self.laying), False)
            self.joins((self.net, thing), False)
        self.joins([self.net, self.laying], False)
        self.joins((self.net, self.laying, ()), False)
        self.joins((self.net,), False)
        self.joins((list(self.net), self.laying), False)
        self.joins((self.net, list(self.laying)), False)
        self.joins((self.laying, self.net), False)

    def test_of_nothing(self):
        self.assertIs(joined_holds((), (1, 1), (((), (), ()), ((), ()))), True)
        self.assertIs(joined_holds((), (1, 1), ((), ())), False)

    def test_by_name(self):
        self.assertIs(joined_holds(flat=self.flat, table=(7, 8), thing=(self.net, self.laying)), True)
        self.assertIs(laid_holds(net=NET, table=TABLE, thing=(CELLS, WAYS)), True)


if __name__ == "__main__":
    unittest.main()
