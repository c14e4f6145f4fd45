"""Point 13: whether a thing is a net that holds of a flat."""

import unittest
from itertools import product

from tests.asking import FLATS, flat_rows
from wiretongue.netchecks import net_holds
from wiretongue.nets import net_of

FLAT = (
    ("in", "x", 2, "c"),
    ("box", "b", 1, "c", 1, ("xor", ("name", "b"), ("bit", 0, ("name", "x")))),
    ("wire", "w", 1, ("and", ("name", "b"), ("bit", 1, ("name", "x")))),
    ("out", "y", 1, ("not", ("name", "w"))),
)
GATES = (("in", "x", 0), ("in", "x", 1), ("box", "c", 1, 3), ("xor", 2, 0), ("and", 2, 1), ("not", 4))
TRACES = (("b", 0, ("gate", 2)), ("w", 0, ("gate", 4)), ("x", 0, ("gate", 0)), ("x", 1, ("gate", 1)),
          ("y", 0, ("gate", 5)))
NET = (GATES, TRACES, ("y",))
GONE = ("gone",)


def but(net, gates=None, traces=None, more=()):
    """A net, some gates by numbers and wheres by bits put anew, more gates behind."""
    rows = [(gates or {}).get(g, gate) for g, gate in enumerate(net[0])]
    wheres = traces or {}
    return ((*rows, *more), tuple((path, k, wheres.get((path, k), where)) for path, k, where in net[1]), net[2])


class Asked(unittest.TestCase):
    def holds(self, thing, flat=FLAT):
        self.assertIs(net_holds(flat, thing), True, thing)

    def fails(self, thing, flat=FLAT):
        self.assertIs(net_holds(flat, thing), False, thing)


class Holds(Asked):
    def test_as_it_is(self):
        self.holds(NET)
        self.holds(((), (), ()), ())

    def test_what_is_told_here(self):
        for name, flat in FLATS.items():
            with self.subTest(name):
                self.holds(net_of(flat), flat)
                self.holds(net_of(flat), flat[::-1])
                self.holds(net_of(flat[::-1]), flat)

    def test_gates_by_other_ways(self):
        self.holds(but(NET, more=(("not", 2), ("not", 1), ("or", 6, 7)), traces={("y", 0): ("gate", 8)}))
        self.holds(but(NET, gates={4: ("and", 1, 2)}))
        self.holds(but(NET, more=(("not", 5),), traces={("w", 0): ("gate", 6)}))
        self.holds(but(NET, more=(("and", 0, 0), ("or", 0, 6)), traces={("x", 0): ("gate", 7)}))
        self.holds(but(NET, gates={2: ("box", "c", 1, 7)}, more=(("not", 3), ("not", 6))))

    def test_gates_in_another_order(self):
        self.holds((
            (("box", "c", 1, 5), ("in", "x", 1), ("and", 1, 0), ("not", 2), ("in", "x", 0), ("xor", 4, 0)),
            (("b", 0, ("gate", 0)), ("w", 0, ("gate", 2)), ("x", 0, ("gate", 4)), ("x", 1, ("gate", 1)),
             ("y", 0, ("gate", 3))), ("y",)))

    def test_more_gates_than_needed(self):
        for gate in (("is", 0), ("is", 1), ("box", "c", 1, 3), ("box", "d", 0, 6), ("box", "zz", 0, 0), ("not", 5),
                     ("xor", 2, 2), ("or", 0, 5)):
            self.holds(but(NET, more=(gate, gate)))

    def test_two_bits_that_are_alike_led_to_one_gate(self):
        flat = flat_rows("clock c", "in x 1 c", "wire v 1 x", "wire w 1 not not v", "out y 1 c w")
        traces = tuple((path, 0, ("gate", 0)) for path in "vwxy")
        self.holds(((("in", "x", 0),), traces, ("y",)), flat)

    def test_bits_led_to_what_they_always_are(self):
        flat = (("in", "x", 1, "c"), ("wire", "w", 2, ("join", ("and", ("name", "x"), ("not", ("name", "x"))),
                                                       ("or", ("name", "x"), ("not", ("name", "x"))))))
        for low, high in product(range(2), repeat=2):
            net = ((("in", "x", 0),), (("w", 0, ("is", low)), ("w", 1, ("is", high)), ("x", 0, ("gate", 0))), ())
            self.assertIs(net_holds(flat, net), (low, high) == (0, 1))

    def test_bits_led_to_a_gate_that_always_is(self):
        flat = (("wire", "w", 1, ("num", 1, 1)), ("out", "y", 1, ("name", "w")))
        for where in (("gate", 0), ("is", 1)):
            self.holds(((("is", 1),), (("w", 0, where), ("y", 0, ("is", 1))), ("y",)), flat)
        self.fails(((("is", 0),), (("w", 0, ("gate", 0)), ("y", 0, ("is", 1))), ("y",)), flat)

    def test_a_box_led_to_what_it_always_is(self):
        flat = flat_rows("clock c", "in x 1 c", "box b 1 c 1 or b x", "out y 1 c and b x")
        net = ((("in", "x", 0),), (("b", 0, ("is", 1)), ("x", 0, ("gate", 0)), ("y", 0, ("gate", 0))), ("y",))
        self.holds(net, flat)
        self.fails(net, flat_rows("clock c", "in x 1 c", "box b 1 c 1 and b x", "out y 1 c and b x"))
        self.fails(net, flat_rows("clock c", "in x 1 c", "box b 1 c 0 or b x", "out y 1 c and b x"))
        # Two boxes that hold each other: one alone could change.
        flat = flat_rows("clock c", "box a 1 c 1 b", "box b 1 c 1 a", "out y 1 c a")
        self.holds(((), (("a", 0, ("is", 1)), ("b", 0, ("is", 1)), ("y", 0, ("is", 1))), ("y",)), flat)
        self.fails(((), (("a", 0, ("is", 1)), ("b", 0, GONE), ("y", 0, ("is", 1))), ("y",)), flat)

    def test_bits_gone_that_no_claim_needs(self):
        self.holds(but(NET, traces={("w", 0): GONE}))
        self.holds(but(NET, traces={("x", 0): GONE}))
        self.holds(but(NET, traces={("x", 0): GONE, ("x", 1): GONE}))
        flat = flat_rows("clock c", "in x 1 c", "box b 1 c 1 x", "wire w 1 b", "out y 1 c and w num 1 0", "out z 1 c x")
        self.holds(((("in", "x", 0), ("is", 0)), (
            ("b", 0, GONE), ("w", 0, GONE), ("x", 0, GONE), ("y", 0, ("gate", 1)), ("z", 0, ("gate", 0))),
            ("y", "z")), flat)

    def test_an_in_without_a_gate(self):
        flat = (("in", "x", 2, "c"), ("out", "y", 1, ("bit", 1, ("name", "x"))))
        self.holds(((("in", "x", 1),), (("x", 0, GONE), ("x", 1, GONE), ("y", 0, ("gate", 0))), ("y",)), flat)
        self.fails(((("in", "x", 0),), (("x", 0, GONE), ("x", 1, GONE), ("y", 0, ("gate", 0))), ("y",)), flat)
        self.fails(((("in", "x", 1),), (("x", 0, ("gate", 0)), ("x", 1, GONE), ("y", 0, ("gate", 0))), ("y",)), flat)

    def test_a_box_of_some_bits_gone(self):
        flat = flat_rows("clock c", "in x 2 c", "box b 2 c 2 x", "out y 1 c bit 1 b")
        net = ((("in", "x", 1), ("box", "c", 1, 0)), (
            ("b", 0, GONE), ("b", 1, ("gate", 1)), ("x", 0, GONE), ("x", 1, ("gate", 0)), ("y", 0, ("gate", 1))),
            ("y",))
        self.holds(net, flat)
        self.fails(but(net, traces={("b", 0): ("gate", 1), ("b", 1): GONE}), flat)

    def test_some_thousand_nots_each_of_the_one_ahead(self):
        flat = (("in", "x", 1, "c"), ("out", "y", 1, ("name", "x")))
        gates = (("in", "x", 0), *[("not", k) for k in range(6000)])
        for g in (5998, 6000):
            self.holds((gates, (("x", 0, ("gate", 0)), ("y", 0, ("gate", g))), ("y",)), flat)
        self.fails((gates, (("x", 0, ("gate", 0)), ("y", 0, ("gate", 5999))), ("y",)), flat)

    def test_some_thousand_xors_of_both_feeds_ahead(self):
        flat = (("in", "x", 1, "c"), ("out", "y", 1, ("name", "x")))
        gates = [("in", "x", 0)] + [("or", k, max(0, k - 1)) for k in range(5000)]
        self.holds((tuple(gates), (("x", 0, GONE), ("y", 0, ("gate", 5000))), ("y",)), flat)


class Formed(Asked):
    def test_gates_that_name_one_behind_them(self):
        for gate in (("not", 3), ("not", 4), ("not", 5), ("not", 6), ("xor", 2, 3), ("xor", 4, 0), ("xor", 2, 5)):
            self.fails(but(NET, gates={3: gate}))

    def test_feeds_beyond_the_gates(self):
        for feed in (6, 7, -1, -6, 10 ** 40):
            self.fails(but(NET, gates={2: ("box", "c", 1, feed)}))
            self.fails(but(NET, gates={5: ("not", feed)}))
            self.fails(but(NET, more=(("or", 0, feed if feed != 6 else 8),)))
            self.fails(but(NET, more=(("or", feed if feed != 6 else 8, 0),)))

    def test_words_that_are_none(self):
        for word in ("nand", "name", "wire", "out", "same", "", "IS", "gate", "gone", None, 0, ("not",), ["not"]):
            self.fails(but(NET, more=((word, 0),)))
            self.fails(but(NET, more=((word, 0, 0),)))
            self.fails(but(NET, more=((word,),)))
            self.fails(but(NET, more=((word, "c", 0, 0),)))
            flat = (("in", "x", 1, "c"),)
            self.fails((((word, "x", 0),), (("x", 0, GONE),), ()), flat)
            self.fails((((word, 1),), (("x", 0, GONE),), ()), flat)

    def test_gates_of_too_many_or_too_few_parts(self):
        for gate in ((), ("is",), ("is", 0, 0), ("in",), ("in", "x"), ("in", "x", 0, 0), ("box",), ("box", "c", 1),
                     ("box", "c", 1, 3, 0), ("not",), ("not", 0, 0), ("and", 0), ("and", 0, 0, 0), ("or", 0),
                     ("or", 0, 0, 0), ("xor", 0), ("xor", 0, 0, 0), ("and",), ("box", "c")):
            self.fails(but(NET, more=(gate,)))

    def test_an_is_of_another_bit(self):
        for b in (2, -1, True, False, "0", None, (0,), (), 10 ** 30):
            self.fails(but(NET, more=(("is", b),)))

    def test_ins(self):
        self.fails(but(NET, more=(("in", "x", 0),)))
        self.fails(but(NET, more=(("in", "x", 1),)))
        for path, k in (("x", 2), ("x", -1), ("x", True), ("x", False), ("x", None), ("x", "0"), ("z", 0), ("", 0),
                        ("b", 0), ("w", 0), ("y", 0), (None, 0), (0, 0), (["x"], 0), (("x",), 0), ({}, 0)):
            self.fails(but(NET, more=(("in", path, k),)))
        # One bit by two gates is refused though each claim be right.
        lone = (("in", "x", 1, "c"), ("out", "y", 1, ("name", "x")))
        for g, where in ((0, ("gate", 0)), (1, ("gate", 1)), (0, GONE), (1, GONE)):
            net = ((("in", "x", 0), ("in", "x", 0)), (("x", 0, where), ("y", 0, ("gate", g))), ("y",))
            self.fails(net, lone)
            self.assertIs(net_holds(lone, (net[0][:1], net[1], ("y",))), g == 0)
        # So these aren't refused for being there twice.
        lone = (("in", "x", 1, "c"),)
        for k in (1, True, False):
            self.fails(((("in", "x", k),), (("x", 0, GONE),), ()), lone)
        self.holds(((("in", "x", 0),), (("x", 0, GONE),), ()), lone)

    def test_clocks_that_are_no_names(self):
        for clock in ("", "one", "clock", "C", "c1", "c c", "toolong", "x.one", None, 0, ("c",), ["c"]):
            self.fails(but(NET, more=(("box", clock, 1, 3),)))
        for clock in ("c", "d", "name", "sixsix"):
            self.holds(but(NET, more=(("box", clock, 1, 3),)))

    def test_boxes_that_begin_as_no_bit(self):
        for b in (2, -1, True, False, None, "1"):
            self.fails(but(NET, more=(("box", "c", b, 3),)))

    def test_truths_in_the_place_of_numbers(self):
        self.fails(but(NET, more=(("not", True),)))
        self.fails(but(NET, more=(("and", 0, True),)))
        self.fails(but(NET, more=(("and", False, 0),)))
        self.fails(but(NET, gates={0: ("in", "x", False)}))
        self.fails(but(NET, gates={1: ("in", "x", True)}))
        self.fails(but(NET, gates={2: ("box", "c", True, 3)}))
        self.fails(but(NET, more=(("box", "c", 1, False),)))
        self.fails(but(NET, traces={("x", 0): ("gate", False)}))
        self.fails(but(NET, traces={("x", 1): ("gate", True)}))
        for at, k in ((2, False), (3, True)):
            traces = list(TRACES)
            traces[at] = ("x", k, TRACES[at][2])
            self.fails((GATES, tuple(traces), ("y",)))
        flat = (("wire", "w", 1, ("num", 1, 1)), ("wire", "z", 1, ("num", 1, 0)))
        self.fails(((), (("w", 0, ("is", True)), ("z", 0, ("is", 0))), ()), flat)
        self.fails(((), (("w", 0, ("is", 1)), ("z", 0, ("is", False))), ()), flat)
        self.holds(((), (("w", 0, ("is", 1)), ("z", 0, ("is", 0))), ()), flat)

    def test_lists_in_the_place_of_tuples(self):
        self.fails(list(NET))
        self.fails((list(GATES), TRACES, ("y",)))
        self.fails((GATES, list(TRACES), ("y",)))
        self.fails((GATES, TRACES, ["y"]))
        for g, gate in enumerate(GATES):
            self.fails(but(NET, gates={g: list(gate)}))
        self.fails(but(NET, more=(["is", 0],)))
        self.fails((GATES, (list(TRACES[0]), *TRACES[1:]), ("y",)))
        self.fails(but(NET, traces={("w", 0): ["gate", 4]}))
        self.fails(but(NET, traces={("w", 0): ["gone"]}))
        self.fails(but(NET, traces={("w", 0): ["is", 0]}))

    def test_things_of_other_kinds(self):
        deep = ()
        for _ in range(29):
            deep = (deep,)
        things = (None, True, False, 0, 1, -1, 10 ** 39, "", "net", "(", (), (()), ((), ()), [], {}, {"gates": ()}, deep,
                  ((), (), (), ()), ((), (), ()), (None, None, None), ("", "", ""), (0, 0, 0), ({}, {}, {}))
        for thing in things:
            self.fails(thing)
            self.fails((thing, TRACES, ("y",)))
            self.fails((GATES, thing, ("y",)))
            self.fails((GATES, TRACES, thing))
            self.fails(but(NET, more=(thing,)))
            self.fails(but(NET, traces={("w", 0): thing}))
            self.fails((GATES, (thing, *TRACES[1:]), ("y",)))
            self.fails((GATES, TRACES, (thing,)))

    def test_of_a_flat_of_nothing(self):
        for thing in (None, (), ((), ()), ((), (), (), ()), [(), (), ()], ((), (), []), ([], (), ()), ((), [], ()),
                      ((), (), ("y",)), ((), (("y", 0, GONE),), ())):
            self.fails(thing, ())
        self.holds(((("is", 0), ("box", "c", 0, 0), ("not", 1)), (), ()), ())

    def test_traces_left_out_twice_or_not_rising(self):
        for at, trace in enumerate(TRACES):
            self.fails((GATES, TRACES[:at] + TRACES[at + 1:], ("y",)))
            self.fails((GATES, TRACES[:at + 1] + TRACES[at:], ("y",)))
            self.fails((GATES, TRACES[:at] + (trace, trace) + TRACES[at + 2:], ("y",)))
            if at:
                self.fails((GATES, TRACES[:at - 1] + (trace, TRACES[at - 1]) + TRACES[at + 1:], ("y",)))
        self.fails((GATES, TRACES[::-1], ("y",)))
        self.fails((GATES, TRACES + (("z", 0, GONE),), ("y",)))
        self.fails((GATES, TRACES[:4] + (("y", 1, ("gate", 5)),), ("y",)))
        self.fails((GATES, (("a", 0, ("gate", 2)),) + TRACES[1:], ("y",)))
        self.fails((GATES, TRACES[:1] + (("w", -1, ("gate", 4)),) + TRACES[2:], ("y",)))

    def test_one_bit_twice_and_another_left_out(self):
        flat = (("in", "x", 3, "c"),)
        for ks in ((0, 0, 2), (0, 1, 1), (0, 0, 0), (1, 1, 2), (0, 2, 2), (0, 1, 3), (0, 2, 1)):
            self.fails(((), tuple(("x", k, GONE) for k in ks), ()), flat)
        self.holds(((), tuple(("x", k, GONE) for k in range(3)), ()), flat)

    def test_traces_of_other_parts(self):
        for trace in (("b", 0), ("b", 0, ("gate", 2), 0), ("b", 0, "gate"), ("b", "0", ("gate", 2)), (None, 0, ("gate", 2)),
                      ("b", None, ("gate", 2)), (["b"], 0, ("gate", 2)), ()):
            self.fails((GATES, (trace,) + TRACES[1:], ("y",)))

    def test_wheres(self):
        for where in (("gate",), ("gate", 4, 4), ("gate", 6), ("gate", -2), ("gate", None), ("gate", "4"), ("gate", (4,)),
                      ("is",), ("is", 2), ("is", -1), ("is", None), ("gone", 0), ("gone", None), ("in", 4), (), 4, "gone",
                      None, ("goner",), (("gone",),), ("gate", 10 ** 40)):
            self.fails(but(NET, traces={("w", 0): where}))
        self.holds(but(NET, traces={("w", 0): GONE}))

    def test_outs(self):
        for outs in ((), ("y", "y"), ("x",), ("w",), ("y", "z"), ("a", "y"), (None,), "y", ("y", None), (("y",),)):
            self.fails((GATES, TRACES, outs))
        flat = (("out", "z", 1, ("num", 1, 1)), ("out", "y", 1, ("num", 1, 1)))
        traces = (("y", 0, ("is", 1)), ("z", 0, ("is", 1)))
        self.holds(((), traces, ("y", "z")), flat)
        for outs in (("z", "y"), ("y",), ("z",), ("y", "y"), ("y", "z", "z")):
            self.fails(((), traces, outs), flat)

    def test_bits_of_outs_gone(self):
        self.fails(but(NET, traces={("y", 0): GONE}))
        flat = (("out", "y", 3, ("num", 3, 7)),)
        for k in range(3):
            traces = tuple(("y", at, GONE if at == k else ("is", 1)) for at in range(3))
            self.fails(((), traces, ("y",)), flat)


class Boxes(Asked):
    def test_led_to_a_gate_that_is_no_box(self):
        flat = flat_rows("clock c", "box b 1 c 1 num 1 1", "out y 1 c b")
        right = ((("box", "c", 1, 1), ("is", 1)), (("b", 0, ("gate", 0)), ("y", 0, ("gate", 0))), ("y",))
        self.holds(right, flat)
        self.fails(but(right, traces={("b", 0): ("gate", 1)}), flat)
        for g in (0, 1, 3, 4, 5):
            self.fails(but(NET, traces={("b", 0): ("gate", g)}))

    def test_of_another_clock(self):
        self.fails(but(NET, gates={2: ("box", "d", 1, 3)}))
        self.fails(but(NET, more=(("box", "d", 1, 3),), traces={("b", 0): ("gate", 6)}))

    def test_that_begins_otherwise(self):
        self.fails(but(NET, gates={2: ("box", "c", 0, 3)}))
        flat = flat_rows("clock c", "box b 2 c 1 b")
        right = ((("box", "c", 1, 0), ("box", "c", 0, 1)), (("b", 0, ("gate", 0)), ("b", 1, ("gate", 1))), ())
        self.holds(right, flat)
        self.fails(but(right, gates={0: ("box", "c", 0, 0), 1: ("box", "c", 1, 1)}), flat)

    def test_always_otherwise_than_it_begins(self):
        flat = flat_rows("clock c", "box b 1 c 1 b", "box a 1 c 0 a")
        for b, a in product(range(2), repeat=2):
            net = ((), (("a", 0, ("is", a)), ("b", 0, ("is", b))), ())
            self.assertIs(net_holds(flat, net), (a, b) == (0, 1))

    def test_two_to_one(self):
        flat = flat_rows("clock c", "in x 1 c", "box a 1 c 0 x", "box b 1 c 0 x", "out y 1 c xor a b")
        one = ((("in", "x", 0), ("box", "c", 0, 0), ("box", "c", 0, 0), ("xor", 1, 2)), (
            ("a", 0, ("gate", 1)), ("b", 0, ("gate", 2)), ("x", 0, ("gate", 0)), ("y", 0, ("gate", 3))), ("y",))
        self.holds(one, flat)
        self.fails(but(one, traces={("b", 0): ("gate", 1)}), flat)
        self.fails(but(one, traces={("b", 0): ("gate", 1), ("y", 0): ("is", 0)}), flat)
        flat = flat_rows("clock c", "box b 2 c 0 b")
        self.fails(((("box", "c", 0, 0),), (("b", 0, ("gate", 0)), ("b", 1, ("gate", 0))), ()), flat)

    def test_another_name_may_be_led_to_its_box(self):
        flat = flat_rows("clock c", "in x 1 c", "box b 1 c 0 x", "wire w 1 b", "out y 1 c w")
        net = ((("in", "x", 0), ("box", "c", 0, 0)), (
            ("b", 0, ("gate", 1)), ("w", 0, ("gate", 1)), ("x", 0, ("gate", 0)), ("y", 0, ("gate", 1))), ("y",))
        self.holds(net, flat)
        self.fails(but(net, traces={("b", 0): GONE}), flat)
        self.fails(but(net, more=(("box", "c", 0, 0),), traces={("b", 0): ("gate", 2)}), flat)

    def test_fed_otherwise(self):
        for feed in (0, 1, 2, 4, 5):
            self.fails(but(NET, gates={2: ("box", "c", 1, feed)}))

    def test_bits_of_one_box_exchanged(self):
        flat = flat_rows("clock c", "in x 2 c", "box b 2 c 0 x")
        right = ((("in", "x", 0), ("in", "x", 1), ("box", "c", 0, 0), ("box", "c", 0, 1)), (
            ("b", 0, ("gate", 2)), ("b", 1, ("gate", 3)), ("x", 0, ("gate", 0)), ("x", 1, ("gate", 1))), ())
        self.holds(right, flat)
        self.fails(but(right, traces={("b", 0): ("gate", 3), ("b", 1): ("gate", 2)}), flat)

    def test_boxes_of_two_clocks_exchanged(self):
        flat = flat_rows("clock c", "clock d", "box a 1 c 0 a", "box b 1 d 0 b")
        right = ((("box", "c", 0, 0), ("box", "d", 0, 1)), (("a", 0, ("gate", 0)), ("b", 0, ("gate", 1))), ())
        self.holds(right, flat)
        self.fails(but(right, traces={("a", 0): ("gate", 1), ("b", 0): ("gate", 0)}), flat)


class Claims(Asked):
    def test_led_to_another_gate(self):
        for bit, right in ((("w", 0), 4), (("x", 0), 0), (("x", 1), 1), (("y", 0), 5)):
            for g in range(6):
                self.assertIs(net_holds(FLAT, but(NET, traces={bit: ("gate", g)})), g == right, (bit, g))
            for b in range(2):
                self.fails(but(NET, traces={bit: ("is", b)}))

    def test_by_another_word(self):
        for g, words in ((3, ("and", "or")), (4, ("or", "xor"))):
            for word in words:
                self.fails(but(NET, gates={g: (word, *GATES[g][1:])}))

    def test_that_fail_at_one_worth_of_their_sources(self):
        paths = "abdefghi"
        ins = [("in", path, 1, "c") for path in paths]
        for worths in ((0,) * 8, (1,) * 8, (1, 0, 0, 1, 0, 1, 1, 0)):
            # The e is 1 at these worths alone; a net that is always 0 is amiss there alone.
            e = None
            for path, worth in zip(paths, worths):
                part = ("name", path) if worth else ("not", ("name", path))
                e = part if e is None else ("and", e, part)
            flat = (*ins, ("out", "y", 1, e))
            gates = tuple(("in", path, 0) for path in paths)
            traces = (*[(path, 0, ("gate", g)) for g, path in enumerate(paths)], ("y", 0, ("is", 0)))
            self.fails((gates, traces, ("y",)), flat)
            never = (*ins, ("out", "y", 1, ("and", e, ("not", e))))
            self.holds((gates, traces, ("y",)), never)

    def summed(self, many):
        """A flat whose out is an xor of so many ins, and a net of it."""
        paths = "abdefghijk"[:many]
        e = ("name", "a")
        for path in paths[1:]:
            e = ("xor", e, ("name", path))
        flat = (*[("in", path, 1, "c") for path in paths], ("out", "y", 1, e))
        gates = [("in", path, 0) for path in paths] + [("xor", 0, 1)]
        for k in range(2, many):
            gates.append(("xor", len(gates) - 1, k))
        traces = (*[(path, 0, ("gate", g)) for g, path in enumerate(paths)], ("y", 0, ("gate", len(gates) - 1)))
        return flat, (tuple(gates), traces, ("y",))

    def test_on_eight_sources_and_on_nine(self):
        for many in (2, 7, 8):
            flat, net = self.summed(many)
            self.holds(net, flat)
        for many in (9, 10):
            flat, net = self.summed(many)
            self.fails(net, flat)

    def test_sources_of_the_gate_are_reckoned_too(self):
        flat, net = self.summed(8)
        more = (("in", "z", 0),)
        flat = (("in", "z", 1, "c"), *flat)
        idle = (("xor", 15, 15), ("xor", 14, 16))
        net = (net[0] + more + idle, net[1] + (("z", 0, GONE),), ("y",))
        self.holds(net, flat)
        self.fails(but(net, traces={("y", 0): ("gate", 17)}), flat)
        # Of seven ins one more that doesn't matter may come.
        flat, net = self.summed(7)
        flat = (("in", "z", 1, "c"), *flat)
        net = (net[0] + more + (("xor", 13, 13), ("xor", 12, 14)), net[1] + (("z", 0, GONE),), ("y",))
        self.holds(but(net, traces={("y", 0): ("gate", 15)}), flat)

    def test_sources_of_a_box_that_matter_nothing(self):
        flat, net = self.summed(8)
        flat = (*flat[:-1], ("box", "z", 1, "c", 0, ("name", "z")), ("out", "y", 1, (
            "xor", flat[-1][3], ("and", ("name", "z"), ("num", 1, 0)))))
        # The ninth source is the box's bit, led to a gate or gone; led to what it always is it is none.
        for where, holds in ((("gate", 15), False), (GONE, False), (("is", 0), True)):
            told = (net[0] + (("box", "c", 0, 15),), net[1] + (("z", 0, where),), ("y",))
            self.assertIs(net_holds(flat, told), holds)

    def test_gates_that_no_claim_asks_may_hang_on_nine(self):
        flat, net = self.summed(9)
        lone = (*flat[:-1], ("out", "y", 1, ("name", "a")))
        self.holds(but(net, traces={("y", 0): ("gate", 0)}), lone)

    def test_wires_gone_may_hang_on_nine(self):
        flat, net = self.summed(9)
        wired = (*flat[:-1], ("wire", "w", 1, flat[-1][3]), ("out", "y", 1, ("name", "a")))
        traces = (*net[1][:-1], ("w", 0, GONE), ("y", 0, ("gate", 0)))
        self.holds((net[0], traces, ("y",)), wired)
        traces = (*net[1][:-1], ("w", 0, ("gate", 16)), ("y", 0, ("gate", 0)))
        self.fails((net[0], traces, ("y",)), wired)

    def test_nine_sources_through_names(self):
        flat, net = self.summed(8)
        parts = (*flat[:-1], ("in", "z", 1, "c"), ("wire", "w", 1, flat[-1][3]))
        gates = (*net[0], ("in", "z", 0), ("and", 14, 15))
        traces = (*net[1][:-1], ("w", 0, ("gate", 14)), ("y", 0, ("gate", 16)), ("z", 0, ("gate", 15)))
        self.fails((gates, traces, ("y",)), (*parts, ("out", "y", 1, ("and", ("name", "w"), ("name", "z")))))

    def hanging(self, e, width, right):
        """Which bits of a wire, of an e of ins of nine bits and more, hang on at most eight."""
        flat = (("in", "x", 8, "c"), ("in", "z", 8, "c"), ("in", "s", 1, "c"), ("wire", "w", width, e))
        gates, traces, outs = net_of(flat)
        for k in range(width):
            wheres = {("w", at): GONE for at in range(width) if at != k}
            self.assertIs(net_holds(flat, but((gates, traces, outs), traces=wheres)), k in right, (e, k))

    def test_what_each_bit_of_a_word_hangs_on(self):
        x, z, s = ("name", "x"), ("name", "z"), ("name", "s")
        both = ("join", x, z)
        self.hanging(("sum", x, z), 9, range(4))
        self.hanging(("sum", x, ("bit", 7, z)), 9, range(7))
        self.hanging(("sum", ("cut", 2, z), x), 9, range(6))
        self.hanging(("same", x, z), 1, ())
        self.hanging(("same", ("cut", 4, x), ("cut", 4, z)), 1, (0,))
        self.hanging(("below", ("cut", 4, x), ("cut", 4, z)), 1, (0,))
        self.hanging(("below", x, ("join", ("cut", 7, x), s)), 1, ())
        self.hanging(("below", x, ("not", x)), 1, (0,))
        self.hanging(("pick", s, x, z), 8, range(8))
        self.hanging(("pick", ("same", ("cut", 3, x), ("cut", 3, z)), z, x), 8, range(8))
        self.hanging(("pick", ("same", ("cut", 4, x), ("cut", 4, z)), z, x), 8, range(4))
        self.hanging(("not", both), 16, range(16))
        self.hanging(("and", x, z), 8, range(8))
        self.hanging(("cut", 3, ("sum", x, z)), 3, range(3))
        self.hanging(("bit", 3, ("sum", x, z)), 1, (0,))
        self.hanging(("bit", 4, ("sum", x, z)), 1, ())
        self.hanging(("join", ("bit", 4, ("sum", x, z)), ("bit", 3, ("sum", x, z))), 2, (1,))

    def test_what_hangs_whether_it_matters_or_not(self):
        x, z = ("name", "x"), ("name", "z")
        nought = ("num", 8, 0)
        for e, holds in ((("and", ("same", x, nought), ("and", ("bit", 0, z), ("num", 1, 0))), False),
                         (("and", ("same", x, nought), ("num", 1, 0)), True),
                         (("pick", ("num", 1, 1), ("same", x, nought), ("bit", 0, z)), False),
                         (("pick", ("num", 1, 1), ("same", x, nought), ("bit", 0, x)), True),
                         (("xor", ("same", x, x), ("same", z, z)), False), (("same", z, z), True)):
            flat = (("in", "x", 8, "c"), ("in", "z", 8, "c"), ("wire", "w", 1, e))
            self.assertIs(net_holds(flat, net_of(flat)), holds, e)

    def test_of_a_gone_box_no_claim_is_right_that_needs_it(self):
        flat = flat_rows("clock c", "in x 1 c", "box b 1 c 1 x", "out y 1 c b")
        net = ((("in", "x", 0), ("box", "c", 1, 0)), (("b", 0, GONE), ("x", 0, ("gate", 0)), ("y", 0, ("gate", 1))), ("y",))
        self.fails(net, flat)
        self.holds(but(net, traces={("b", 0): ("gate", 1)}), flat)

    def test_claims_of_many_sources_in_all(self):
        rows = ["clock c"] + [f"in {path} 8 c" for path in "abdefghi"] + ["box z 8 c 170 xor a b"]
        rows += ["wire p 8 pick bit 0 a xor z d and e f", "out q 8 c or p and g not h", "out r 8 c xor i p"]
        flat = flat_rows(*rows)
        net = net_of(flat)
        self.holds(net, flat)
        for g, gate in enumerate(net[0]):
            if gate[0] in ("and", "or", "xor"):
                self.fails(but(net, gates={g: ({"and": "xor", "or": "and", "xor": "or"}[gate[0]], *gate[1:])}), flat)

    def test_a_net_of_another_flat(self):
        for one, other in product(FLATS, repeat=2):
            if one != other:
                self.fails(net_of(FLATS[one]), FLATS[other])

    def test_by_name(self):
        self.assertIs(net_holds(flat=FLAT, thing=NET), True)


if __name__ == "__main__":
    unittest.main()
