"""Point 6: which names are amiss, and where; Nested."""

import unittest

from tests.asking import design_of, looked, looked_rows
from wiretongue.faces import face_of
from wiretongue.names import amiss_names
from wiretongue.reading import read_module
from wiretongue.scopes import Scope

# A module to be used: of two clocks, two ins, two outs.
USED = ("clock k", "clock l", "in a 2 k", "in b 1 l", "out y 2 k a", "out z 1 l b", "wire w 2 a", "box v 1 k 0 num 1 0")


class Names(unittest.TestCase):
    def tells(self, rows, place):
        self.assertEqual(looked_rows(*rows), None if place is None else ("name", place))

    def uses(self, rows, place, used=USED):
        """What is told of rows behind `clock c`, `clock d` that may use the module m."""
        told = looked(design_of(m=used, top=("clock c", "clock d") + tuple(rows)))
        self.assertEqual(told, None if place is None else ("name", "top", place))


class Had(Names):
    def test_each_kind_of_row(self):
        for row in ("clock x", "in x 1 c", "out x 1 c num 1 0", "wire x 1 num 1 0", "box x 1 c 0 num 1 0",
                    "cross x d 0 x"):
            self.tells(("clock c", "clock d", "in x 1 c", row), (3, 1))
        self.uses(("in x 2 c", "use x m 2 c d x num 1 0"), (3, 1))

    def test_each_kind_of_row_ahead(self):
        for row in ("clock x", "in x 1 c", "out x 1 c num 1 0", "wire x 1 num 1 0", "box x 1 c 0 num 1 0",
                    "cross x d 0 b"):
            self.tells(("clock c", "clock d", "box b 1 c 0 num 1 0", row, "wire x 1 num 1 0"), (4, 1))
        self.uses(("use x m 2 c d num 2 0 num 1 0", "wire x 1 num 1 0"), (3, 1))

    def test_each_row_that_comes_later(self):
        self.tells(("clock c", "wire x 1 num 1 0", "clock e", "wire x 1 num 1 0", "wire x 1 num 1 0"), (3, 1))

    def test_outs_are_called_by_names_too(self):
        self.tells(("clock c", "out y 1 c num 1 0", "out y 1 c num 1 0"), (2, 1))

    def test_modules_have_names_of_their_own(self):
        rows = ("clock c", "in m 1 c", "use top m 0")
        self.assertIsNone(looked(design_of(m="", top=rows)))

    def test_names_of_a_used_module_are_its_own(self):
        self.uses(("in a 2 c", "in k 1 d", "use w m 2 c d a k"), None)


class Clocks(Names):
    def test_no_clock_row(self):
        self.tells(("in x 1 d",), (0, 3))
        self.tells(("clock c", "in x 1 d"), (1, 3))
        self.tells(("clock c", "out y 1 d num 1 0"), (1, 3))
        self.tells(("clock c", "box b 1 d 0 num 1 0"), (1, 3))
        self.tells(("clock c", "in x 1 c", "cross y d 0 x"), (2, 2))

    def test_of_a_use(self):
        for words, word in (("e d", 4), ("c e", 5), ("e f", 4)):
            self.uses((f"use i m 2 {words} num 2 0 num 1 0",), (2, word))

    def test_a_clock_row_further_on(self):
        self.tells(("in x 1 c", "clock c"), None)

    def test_a_row_of_another_kind(self):
        for row in ("in d 1 c", "out d 1 c num 1 0", "wire d 1 num 1 0", "box d 1 c 0 num 1 0"):
            self.tells(("clock c", row, "in x 1 d"), (2, 3))
        self.uses(("use i m 2 c d num 2 0 num 1 0", "in x 1 i"), (3, 3))

    def test_the_first_row_so_called_counts(self):
        self.tells(("clock c", "in x 1 d", "wire d 1 num 1 0", "clock d"), (1, 3))
        self.tells(("clock c", "in x 1 d", "clock d", "wire d 1 num 1 0"), (3, 1))


class InExpressions(Names):
    def test_ins_wires_boxes_and_crosses_of_any_row(self):
        rows = ("clock c", "clock d", "wire w 4 join join x v join b z", "in x 1 c", "wire v 1 x", "box b 1 c 0 b",
                "cross z d 0 x")
        self.assertEqual(looked_rows(*rows)[0], "clock")
        self.tells(("clock c", "wire w 2 join x v", "in x 1 c", "wire v 1 x"), None)

    def test_its_own_row(self):
        self.tells(("wire w 1 w",), None)

    def test_none_so_called(self):
        self.tells(("clock c", "wire w 1 x"), (1, 3))
        self.tells(("clock c", "out y 1 c x"), (1, 4))
        self.tells(("clock c", "box b 1 c 0 x"), (1, 5))
        self.tells(("clock c", "cross z c 0 x"), (1, 4))
        self.uses(("use i m 2 c d x num 1 0",), (2, 6))
        self.uses(("use i m 2 c d num 2 0 x",), (2, 9))

    def test_at_its_own_word(self):
        self.tells(("clock c", "in a 1 c", "wire w 1 and a x"), (2, 5))
        self.tells(("clock c", "in a 1 c", "wire w 1 pick a not not x y"), (2, 7))
        self.tells(("clock c", "in a 1 c", "wire w 1 cut 1 join num 1 0 x"), (2, 9))
        self.tells(("clock c", "in a 1 c", "wire w 1 bit 1 x"), (2, 5))

    def test_of_a_clock_an_out_a_use(self):
        self.tells(("clock c", "wire w 1 c"), (1, 3))
        self.tells(("clock c", "out y 1 c num 1 0", "wire w 1 y"), (2, 3))
        self.uses(("use i m 2 c d num 2 0 num 1 0", "wire w 1 i"), (3, 3))
        self.tells(("clock c", "cross z c 0 c"), (1, 4))
        self.uses(("use i m 2 c d num 2 0 num 1 0", "cross z c 0 i"), (3, 4))

    def test_of_a_module(self):
        self.uses(("wire w 1 m",), (2, 3))

    def test_the_first_row_so_called_counts(self):
        for row in ("clock x", "out x 1 c num 1 0"):
            self.tells(("clock c", "wire w 1 x", row, "in x 1 c"), (1, 3))
            self.tells(("clock c", "wire w 1 x", "in x 1 c", row), (3, 1))

    def test_a_wire_in_a_cross_is_not_amiss_by_its_name(self):
        self.assertEqual(looked_rows("clock c", "wire w 1 num 1 0", "cross z c 0 w"), ("clock", (2, 4)))


class Points(Names):
    USE = "use i m 2 c d num 2 0 num 1 0"

    def test_outs(self):
        self.uses((self.USE, "wire w 2 i.y", "wire v 1 i.z"), None)

    def test_a_use_further_on(self):
        self.uses(("wire w 2 i.y", self.USE), None)

    def test_no_row_so_called(self):
        self.uses((self.USE, "wire w 2 j.y"), (3, 3))

    def test_a_row_that_is_no_use(self):
        for row in ("clock j", "in j 1 c", "out j 1 c num 1 0", "wire j 1 num 1 0", "box j 1 c 0 num 1 0"):
            self.uses((self.USE, row, "wire w 2 j.y"), (4, 3))
        self.uses((self.USE, "in x 1 c", "cross j d 0 x", "wire w 2 j.y"), (5, 3))

    def test_no_such_out(self):
        for name in ("x", "a", "w", "v", "k", "i", "m"):
            self.uses((self.USE, f"wire w 2 not i.{name}"), (3, 4))

    def test_by_the_module_itself(self):
        self.uses((self.USE, "wire w 2 m.y"), (3, 3))

    def test_the_first_row_so_called_counts(self):
        self.uses(("wire w 2 i.y", "wire i 1 num 1 0", self.USE), (2, 3))
        self.uses(("wire w 2 i.y", self.USE, "wire i 1 num 1 0"), (4, 1))

    def test_of_two_uses_so_called_the_first_one(self):
        design = design_of(m=USED, n=("clock k", "out p 1 k num 1 0"),
                           top=("clock c", "clock d", "wire w 1 i.p", self.USE, "use i n 1 c"))
        self.assertEqual(looked(design), ("name", "top", (2, 3)))

    def test_outs_whose_name_was_had_are_outs(self):
        used = ("clock k", "in p 1 k", "out p 1 k num 1 0")
        design = design_of(a=("clock c", "use i m 1 c num 1 0", "wire w 1 i.p"), m=used)
        self.assertEqual(looked(design), ("name", "m", (2, 1)))


class Modules(Names):
    def test_not_there(self):
        self.uses(("use i n 0",), (2, 2))
        self.tells(("use i m 0",), (0, 2))
        self.tells(("clock c", "use i c 0"), (1, 2))

    def test_where_it_is_not_there_nothing_else_is_asked_of_it(self):
        self.tells(("wire w 1 i.y", "use i m 0"), (1, 2))
        self.tells(("clock c", "wire w 1 and i.y i.x", "use i m 3 c c c i.p"), (2, 2))

    def test_where_it_is_not_there_its_clocks_and_names_are_asked(self):
        self.assertEqual(self.places(("use i m 2 c d x i.y",), {}), [(0, 2), (0, 4), (0, 5), (0, 6)])

    def places(self, rows, faces):
        return sorted(amiss_names(Scope(read_module("\n".join(rows)), faces)))

    def test_where_it_cannot_be_read(self):
        rows = ("clock c", "wire w 1 i.y", "use i m 3 c c c i.p w w w w")
        self.assertEqual(self.places(rows, {"m": None}), [])
        self.assertEqual(self.places(rows, {}), [(2, 2)])
        rows = ("clock c", "use i m 2 e c x", "wire w 1 j.y")
        self.assertEqual(self.places(rows, {"m": None}), [(1, 4), (1, 6), (2, 3)])

    def test_each_place_of_a_module(self):
        rows = ("clock c", "in c 1 d", "use i m 1 c x y", "wire w 1 and i.q c", "out w 1 w i.y")
        face = face_of(read_module("\n".join(USED)))
        places = [(1, 1), (1, 3), (2, 3), (2, 5), (2, 6), (3, 4), (3, 5), (4, 1), (4, 3)]
        self.assertEqual(self.places(rows, {"m": face}), places)


class Asked(Names):
    def test_right(self):
        self.uses(("use i m 2 c d num 2 0 num 1 0",), None)
        self.uses(("use i m 2 c c num 2 0 num 1 0",), None)

    def test_so_many_clocks(self):
        self.uses(("use i m 0 num 2 0 num 1 0",), (2, 3))
        self.uses(("use i m 1 c num 2 0 num 1 0",), (2, 3))
        self.uses(("use i m 3 c d c num 2 0 num 1 0",), (2, 3))
        self.uses(("use i m 1 c",), (2, 3), used=())

    def test_an_expression_too_many(self):
        self.uses(("use i m 2 c d num 2 0 num 1 0 num 1 0",), (2, 12))
        self.uses(("use i m 2 c d num 2 0 not num 1 0 not num 1 0",), (2, 13))
        self.uses(("use i m 2 c d num 2 0 num 1 0 num 1 0 num 1 0 num 1 0",), (2, 12))
        self.uses(("use i m 0 num 1 0",), (2, 4), used=())

    def test_the_first_too_many_though_a_name_is_amiss_further_on(self):
        self.uses(("use i m 2 c d num 2 0 num 1 0 not x",), (2, 12))

    def test_an_expression_too_few(self):
        self.uses(("use i m 2 c d num 2 0",), (2, 9))
        self.uses(("use i m 2 c d",), (2, 6))
        self.uses(("in x 2 c", "use i m 2 c d not not x"), (3, 9))
        self.uses(("in x 2 c", "use i m 2 c d pick bit 0 x cut 2 num 4 3 x"), (3, 16))

    def test_a_name_amiss_ahead_of_what_lacks(self):
        self.uses(("use i m 2 c d not x",), (2, 7))

    def test_both_clocks_and_expressions(self):
        self.uses(("use i m 1 c num 2 0",), (2, 3))
        self.uses(("use i m 1 e num 2 0",), (2, 3))
        self.uses(("use i m 2 e f num 2 0",), (2, 4))

    def test_rows_whose_name_was_had_are_counted(self):
        used = ("clock k", "clock k", "in p 1 k", "in p 1 k")
        right = ("clock c", "use i m 2 c c num 1 0 num 1 0")
        self.assertEqual(looked(design_of(a=right, m=used)), ("name", "m", (1, 1)))
        fewer = ("clock c", "use i m 1 c num 1 0 num 1 0")
        self.assertEqual(looked(design_of(a=fewer, m=used)), ("name", "a", (1, 3)))
        fewer = ("clock c", "use i m 2 c c num 1 0")
        self.assertEqual(looked(design_of(a=fewer, m=used)), ("name", "a", (1, 9)))


class NestedModules(Names):
    def ring_of(self, **texts):
        told = looked(design_of(**texts))
        self.assertEqual(told[0], "nested")
        return told[1]

    def right_ring(self, ring, *follows):
        """Whether a ring goes by these (module, module that it uses)."""
        self.assertEqual(ring.__class__, tuple)
        self.assertEqual(len(set(ring)), len(ring))
        for k, name in enumerate(ring):
            self.assertIn((name, ring[(k + 1) % len(ring)]), follows)

    def test_itself(self):
        self.assertEqual(self.ring_of(a=("use i a 0",)), ("a",))
        self.assertEqual(self.ring_of(a=("use i b 0",), b=("use i b 0",)), ("b",))

    def test_two(self):
        self.right_ring(self.ring_of(a="use i b 0", b="use i a 0"), ("a", "b"), ("b", "a"))

    def test_three(self):
        ring = self.ring_of(a="use i c 0", b="use i a 0", c="use i b 0")
        self.assertEqual(len(ring), 3)
        self.right_ring(ring, ("a", "c"), ("c", "b"), ("b", "a"))

    def test_two_behind_one_that_is_in_none(self):
        ring = self.ring_of(a=("use i b 0", "use j d 0"), b="use i c 0", c=("use j d 0", "use i b 0"), d="")
        self.assertEqual(len(ring), 2)
        self.right_ring(ring, ("b", "c"), ("c", "b"))

    def test_one_that_uses_another_twice(self):
        self.assertIsNone(looked(design_of(a=("use i b 0", "use j b 0", "use k c 0"), b="use i c 0", c="")))

    def test_of_two_rings_one(self):
        ring = self.ring_of(a="use i b 0", b="use i a 0", c="use i d 0", d="use i c 0")
        self.right_ring(ring, ("a", "b"), ("b", "a"), ("c", "d"), ("d", "c"))

    def test_through_a_box_is_a_ring_all_the_same(self):
        a = ("clock k", "use i a 1 k b", "box b 1 k 0 num 1 0", "in x 1 k")
        self.assertEqual(self.ring_of(a=a), ("a",))

    def test_a_name_amiss_is_ahead(self):
        design = design_of(a="use i a 0", b="wire w 1 x")
        self.assertEqual(looked(design), ("name", "b", (0, 3)))

    def test_it_is_ahead_of_a_width_and_of_clocks(self):
        self.assertEqual(self.ring_of(a="wire w 2 num 1 0", b="use i b 0"), ("b",))
        self.assertEqual(self.ring_of(a=("wire w 1 num 1 0", "clock c", "cross z c 0 w"), b="use i b 0"), ("b",))


if __name__ == "__main__":
    unittest.main()
