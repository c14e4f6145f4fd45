"""Point 10: the flat of a design, whence its rows come, and Ring."""

import unittest

from tests.asking import design_of, looked, refused
from wiretongue.errors import Ring
from wiretongue.flat import flat_of


class Flat(unittest.TestCase):
    def tells(self, design, told, top="top"):
        """What flat_of tells, as (row, whence) of each."""
        self.assertIsNone(looked(design))
        flat = tuple(row for row, _ in told)
        whence = tuple(place for _, place in told)
        # By repr, so that lists and truths in the place of tuples and numbers are seen.
        self.assertEqual(repr(flat_of(design, top)), repr((flat, whence)))

    def test_no_rows(self):
        self.tells(design_of(top=""), ())
        self.tells(design_of(top="clock c"), ())

    def test_each_sort_of_row_of_the_top(self):
        design = design_of(top=("clock c", "in x 3 c", "clock d", "wire w 3 not x", "box b 2 c 3 cut 2 w",
                                "out y 1 c bit 1 b", "in p 1 d"))
        self.tells(design, (
            (("in", "x", 3, "c"), ("top", 1)),
            (("wire", "w", 3, ("not", ("name", "x"))), ("top", 3)),
            (("box", "b", 2, "c", 3, ("cut", 2, ("name", "w"))), ("top", 4)),
            (("out", "y", 1, ("bit", 1, ("name", "b"))), ("top", 5)),
            (("in", "p", 1, "d"), ("top", 6)),
        ))

    def test_each_sort_of_expression(self):
        x, num = ("name", "x"), ("num", 1, 0)
        for words, width, e in (
            ("x", 1, x), ("num 8 200", 8, ("num", 8, 200)), ("not x", 1, ("not", x)),
            ("and x num 1 0", 1, ("and", x, num)), ("or num 1 0 x", 1, ("or", num, x)),
            ("xor x x", 1, ("xor", x, x)), ("sum x num 1 0", 2, ("sum", x, num)),
            ("same x num 1 0", 1, ("same", x, num)), ("below num 1 0 x", 1, ("below", num, x)),
            ("join x num 1 0", 2, ("join", x, num)), ("pick x num 1 0 x", 1, ("pick", x, num, x)),
            ("cut 1 x", 1, ("cut", 1, x)), ("bit 0 x", 1, ("bit", 0, x)),
            ("not cut 2 sum x bit 3 num 4 9", 2, ("not", ("cut", 2, ("sum", x, ("bit", 3, ("num", 4, 9)))))),
        ):
            design = design_of(top=("clock c", "in x 1 c", f"wire w {width} {words}"))
            self.tells(design, (
                (("in", "x", 1, "c"), ("top", 1)),
                (("wire", "w", width, e), ("top", 2)),
            ))

    def test_a_cross(self):
        design = design_of(top=("clock c", "clock d", "in x 1 c", "cross z d 1 x", "cross a c 0 z"))
        self.tells(design, (
            (("in", "x", 1, "c"), ("top", 2)),
            (("box", "z.one", 1, "d", 1, ("name", "x")), ("top", 3)),
            (("box", "z", 1, "d", 1, ("name", "z.one")), ("top", 3)),
            (("box", "a.one", 1, "c", 0, ("name", "z")), ("top", 4)),
            (("box", "a", 1, "c", 0, ("name", "a.one")), ("top", 4)),
        ))

    def test_a_use(self):
        used = ("clock k", "in a 2 k", "in b 1 k", "wire w 2 not a", "out y 2 k w", "box v 1 k 1 b", "out z 1 k v")
        top = ("clock c", "in x 2 c", "wire w 2 i.y", "use i m 1 c not x bit 0 x", "out y 1 c i.z")
        self.tells(design_of(m=used, top=top), (
            (("in", "x", 2, "c"), ("top", 1)),
            (("wire", "w", 2, ("name", "i.y")), ("top", 2)),
            (("wire", "i.a", 2, ("not", ("name", "x"))), ("m", 1)),
            (("wire", "i.b", 1, ("bit", 0, ("name", "x"))), ("m", 2)),
            (("wire", "i.w", 2, ("not", ("name", "i.a"))), ("m", 3)),
            (("wire", "i.y", 2, ("name", "i.w")), ("m", 4)),
            (("box", "i.v", 1, "c", 1, ("name", "i.b")), ("m", 5)),
            (("wire", "i.z", 1, ("name", "i.v")), ("m", 6)),
            (("out", "y", 1, ("name", "i.z")), ("top", 4)),
        ))

    def test_a_use_twice(self):
        used = ("clock k", "in a 1 k", "out y 1 k not a")
        top = ("clock c", "clock d", "in x 1 c", "in p 1 d", "use i m 1 c x", "use j m 1 d p")
        self.tells(design_of(m=used, top=top), (
            (("in", "x", 1, "c"), ("top", 2)),
            (("in", "p", 1, "d"), ("top", 3)),
            (("wire", "i.a", 1, ("name", "x")), ("m", 1)),
            (("wire", "i.y", 1, ("not", ("name", "i.a"))), ("m", 2)),
            (("wire", "j.a", 1, ("name", "p")), ("m", 1)),
            (("wire", "j.y", 1, ("not", ("name", "j.a"))), ("m", 2)),
        ))

    def test_a_use_handed_to_another(self):
        used = ("clock k", "in a 1 k", "out y 1 k not a")
        top = ("clock c", "in x 1 c", "use i m 1 c j.y", "use j m 1 c x")
        self.tells(design_of(m=used, top=top), (
            (("in", "x", 1, "c"), ("top", 1)),
            (("wire", "i.a", 1, ("name", "j.y")), ("m", 1)),
            (("wire", "i.y", 1, ("not", ("name", "i.a"))), ("m", 2)),
            (("wire", "j.a", 1, ("name", "x")), ("m", 1)),
            (("wire", "j.y", 1, ("not", ("name", "j.a"))), ("m", 2)),
        ))

    def test_a_use_in_a_use(self):
        low = ("clock k", "clock l", "in a 1 k", "cross z l 0 a", "out y 1 l z", "box b 1 k 1 b")
        mid = ("clock f", "in a 1 f", "clock g", "use u low 2 f g not a", "out y 1 g u.y", "use v low 2 g f u.y")
        top = ("clock c", "clock d", "in x 1 d", "use i mid 2 d c x", "out y 1 c i.y")
        self.tells(design_of(low=low, mid=mid, top=top), (
            (("in", "x", 1, "d"), ("top", 2)),
            (("wire", "i.a", 1, ("name", "x")), ("mid", 1)),
            (("wire", "i.u.a", 1, ("not", ("name", "i.a"))), ("low", 2)),
            (("box", "i.u.z.one", 1, "c", 0, ("name", "i.u.a")), ("low", 3)),
            (("box", "i.u.z", 1, "c", 0, ("name", "i.u.z.one")), ("low", 3)),
            (("wire", "i.u.y", 1, ("name", "i.u.z")), ("low", 4)),
            (("box", "i.u.b", 1, "d", 1, ("name", "i.u.b")), ("low", 5)),
            (("wire", "i.y", 1, ("name", "i.u.y")), ("mid", 4)),
            (("wire", "i.v.a", 1, ("name", "i.u.y")), ("low", 2)),
            (("box", "i.v.z.one", 1, "d", 0, ("name", "i.v.a")), ("low", 3)),
            (("box", "i.v.z", 1, "d", 0, ("name", "i.v.z.one")), ("low", 3)),
            (("wire", "i.v.y", 1, ("name", "i.v.z")), ("low", 4)),
            (("box", "i.v.b", 1, "c", 1, ("name", "i.v.b")), ("low", 5)),
            (("out", "y", 1, ("name", "i.y")), ("top", 4)),
        ))

    def test_four_within_one_another(self):
        def through(module):
            return ("clock k", "in a 1 k", f"use u {module} 1 k a", "out y 1 k u.y")

        last = ("clock k", "in a 1 k", "box b 1 k 1 a", "out y 1 k b")
        design = design_of(m=last, n=through("m"), o=through("n"), top=through("o"))
        self.tells(design, (
            (("in", "a", 1, "k"), ("top", 1)),
            (("wire", "u.a", 1, ("name", "a")), ("o", 1)),
            (("wire", "u.u.a", 1, ("name", "u.a")), ("n", 1)),
            (("wire", "u.u.u.a", 1, ("name", "u.u.a")), ("m", 1)),
            (("box", "u.u.u.b", 1, "k", 1, ("name", "u.u.u.a")), ("m", 2)),
            (("wire", "u.u.u.y", 1, ("name", "u.u.u.b")), ("m", 3)),
            (("wire", "u.u.y", 1, ("name", "u.u.u.y")), ("n", 3)),
            (("wire", "u.y", 1, ("name", "u.u.y")), ("o", 3)),
            (("out", "y", 1, ("name", "u.y")), ("top", 3)),
        ))

    def test_one_clock_handed_for_two(self):
        used = ("clock k", "clock l", "in a 1 k", "cross z l 0 a", "box b 1 l 0 z")
        self.tells(design_of(m=used, top=("clock c", "use i m 2 c c num 1 1")), (
            (("wire", "i.a", 1, ("num", 1, 1)), ("m", 2)),
            (("box", "i.z.one", 1, "c", 0, ("name", "i.a")), ("m", 3)),
            (("box", "i.z", 1, "c", 0, ("name", "i.z.one")), ("m", 3)),
            (("box", "i.b", 1, "c", 0, ("name", "i.z")), ("m", 4)),
        ))

    def test_each_module_may_be_the_top(self):
        used = ("clock k", "in a 1 k", "out y 1 k not a")
        top = ("clock c", "in x 1 c", "use i m 1 c x")
        self.tells(design_of(m=used, top=top), (
            (("in", "a", 1, "k"), ("m", 1)),
            (("out", "y", 1, ("not", ("name", "a"))), ("m", 2)),
        ), top="m")

    def test_what_nobody_uses_is_not_there(self):
        self.tells(design_of(a=("clock k", "in q 1 k"), top=("clock c", "in x 1 c")), (
            (("in", "x", 1, "c"), ("top", 1)),
        ))

    def test_a_use_without_rows(self):
        self.tells(design_of(m="", top=("use i m 0", "wire w 1 num 1 0")), (
            (("wire", "w", 1, ("num", 1, 0)), ("top", 1)),
        ))

    def test_a_module_put_in_twice(self):
        used = ("clock k", "in a 1 k", "out y 1 k not a")

        def flat(module):
            top = ("clock c", "in x 1 c", f"use i {module} 1 c x")
            return flat_of(design_of(m=used, n=used, top=top), "top")

        self.assertEqual(flat("m")[0], flat("n")[0])
        self.assertEqual(flat("m")[1], (("top", 1), ("m", 1), ("m", 2)))
        self.assertEqual(flat("n")[1], (("top", 1), ("n", 1), ("n", 2)))

    def test_the_same_is_told_again(self):
        design = design_of(top=("clock c", "in x 1 c"))
        first = flat_of(design, "top")
        flat_of(design_of(top="wire w 1 num 1 0"), "top")
        self.assertEqual(flat_of(design, "top"), first)

    def test_by_name(self):
        design = design_of(top=("clock c", "in x 1 c"))
        self.assertEqual(flat_of(design=design, top="top"), flat_of(design, "top"))


class Rings(unittest.TestCase):
    def ring_of(self, *rows, **texts):
        design = design_of(top=rows, **texts)
        self.assertIsNone(looked(design))
        ring = refused(Ring, flat_of, design, "top").ring
        self.assertEqual(ring.__class__, tuple)
        return ring

    def right(self, ring, *follows):
        """Whether a ring goes by these (wire, wire in its expression)."""
        self.assertGreater(len(ring), 0)
        self.assertEqual(len(set(ring)), len(ring))
        for k, path in enumerate(ring):
            self.assertIn((path, ring[(k + 1) % len(ring)]), follows)

    def test_of_one_wire(self):
        self.assertEqual(self.ring_of("wire w 1 w"), ("w",))
        self.assertEqual(self.ring_of("wire v 1 w", "wire w 1 not and num 1 0 w"), ("w",))

    def test_though_no_bit_hang_on_itself(self):
        self.assertEqual(self.ring_of("wire w 2 join bit 1 w num 1 0"), ("w",))
        self.assertEqual(self.ring_of("wire w 1 and w num 1 0"), ("w",))

    def test_of_two(self):
        self.right(self.ring_of("wire a 1 b", "wire b 1 a"), ("a", "b"), ("b", "a"))

    def test_of_several(self):
        ring = self.ring_of("wire a 1 and x d", "wire b 1 a", "clock c", "in x 1 c", "wire d 1 and x b", "wire e 1 a")
        self.assertEqual(len(ring), 3)
        self.right(ring, ("a", "d"), ("d", "b"), ("b", "a"))

    def test_of_two_rings_one(self):
        ring = self.ring_of("wire a 1 b", "wire b 1 a", "wire d 1 e", "wire e 1 d")
        self.right(ring, ("a", "b"), ("b", "a"), ("d", "e"), ("e", "d"))

    def test_two_rings_through_one_wire(self):
        ring = self.ring_of("wire a 1 and b d", "wire b 1 a", "wire d 1 a")
        self.right(ring, ("a", "b"), ("b", "a"), ("a", "d"), ("d", "a"))

    def test_behind_wires_that_are_in_none(self):
        ring = self.ring_of("wire a 1 and d b", "wire b 1 e", "wire d 1 num 1 0", "wire e 1 and d f", "wire f 1 b")
        self.assertEqual(len(ring), 3)
        self.right(ring, ("b", "e"), ("e", "f"), ("f", "b"))

    def test_through_a_use(self):
        used = ("clock k", "in a 1 k", "out y 1 k not a")
        ring = self.ring_of("clock c", "use i m 1 c w", "wire w 1 i.y", m=used)
        self.assertEqual(len(ring), 3)
        self.right(ring, ("i.a", "w"), ("w", "i.y"), ("i.y", "i.a"))

    def test_a_use_handed_what_it_tells(self):
        used = ("clock k", "in a 1 k", "out y 1 k not a")
        ring = self.ring_of("clock c", "use i m 1 c i.y", m=used)
        self.right(ring, ("i.a", "i.y"), ("i.y", "i.a"))

    def test_within_a_used_module(self):
        used = ("clock k", "wire w 1 v", "wire v 1 w")
        ring = self.ring_of("clock c", "use i m 1 c", "use j m 1 c", m=used)
        self.right(ring, ("i.w", "i.v"), ("i.v", "i.w"), ("j.w", "j.v"), ("j.v", "j.w"))

    def test_through_a_use_in_a_use(self):
        low = ("clock k", "in a 1 k", "out y 1 k a")
        mid = ("clock k", "in a 1 k", "use u low 1 k a", "out y 1 k u.y")
        ring = self.ring_of("clock c", "use i mid 1 c not i.y", low=low, mid=mid)
        self.assertEqual(len(ring), 4)
        self.right(ring, ("i.a", "i.y"), ("i.y", "i.u.y"), ("i.u.y", "i.u.a"), ("i.u.a", "i.a"))

    def right_flat(self, *rows, **texts):
        design = design_of(top=rows, **texts)
        self.assertIsNone(looked(design))
        flat_of(design, "top")

    def test_none_where_a_box_stands_between(self):
        self.right_flat("clock c", "wire a 1 b", "box b 1 c 0 a")
        self.right_flat("clock c", "box b 1 c 0 not b")
        self.right_flat("clock c", "clock d", "cross z d 0 b", "box b 1 c 0 num 1 0", "wire w 1 z")
        used = ("clock k", "in a 1 k", "box b 1 k 0 a", "out y 1 k b")
        self.right_flat("clock c", "use i m 1 c not i.y", m=used)

    def test_none_in_a_module_that_nobody_uses(self):
        self.right_flat("clock c", "in x 1 c", m=("wire w 1 w",))
        self.right_flat("use i n 0", m=("wire w 1 w",), n=("wire w 1 num 1 0",))

    def test_none_where_ways_meet_again(self):
        self.right_flat("wire a 1 and b d", "wire b 1 e", "wire d 1 e", "wire e 1 num 1 0")

    def test_a_module_used_with_a_ring_is_one_of_the_top_alone(self):
        design = design_of(m="wire w 1 w", top="wire v 1 num 1 0")
        flat_of(design, "top")
        self.assertEqual(refused(Ring, flat_of, design, "m").ring, ("w",))

    def test_long_ones(self):
        many = 400
        names = ["w" + "".join("abcdefghij"[int(figure)] for figure in str(k)) for k in range(many)]
        rows = [f"wire {names[k]} 1 {names[(k + 1) % many]}" for k in range(many)]
        ring = self.ring_of(*rows)
        self.assertEqual(len(ring), many)
        self.right(ring, *[(names[k], names[(k + 1) % many]) for k in range(many)])
        rows[-1] = f"wire {names[-1]} 1 num 1 0"
        self.right_flat(*rows)


if __name__ == "__main__":
    unittest.main()
