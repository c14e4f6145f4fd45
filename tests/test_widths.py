"""Point 7: how wide expressions are, and which widths are amiss, and where."""

import unittest

from tests.asking import design_of, looked, looked_rows
from wiretongue.looking import wide
from wiretongue.reading import read_module
from wiretongue.scopes import Scope
from wiretongue.widths import amiss_widths

# Names of these widths: p 1, q 2, r 2, t 3, v 8, u 8; b a box, z a cross, w a wire, i.y and i.o of a use.
ROWS = (
    "clock c",
    "in p 1 c",
    "in q 2 c",
    "in r 2 c",
    "in t 3 c",
    "in u 8 c",
    "in v 8 c",
    "wire w 5 num 5 0",
    "box b 6 c 0 num 6 0",
    "clock d",
    "cross z d 0 p",
    "use i m 1 c num 7 0",
)
USED = ("clock k", "in a 7 k", "out y 4 k num 4 0", "out o 1 k num 1 0")


def expression(words):
    return read_module("wire w 1 " + words)[0][3]


class Wide(unittest.TestCase):
    DESIGN = design_of(m=USED, top=ROWS)

    def tells(self, words, width):
        self.assertEqual(repr(wide(self.DESIGN, "top", expression(words))), repr(width), words)

    def test_the_design_is_right(self):
        self.assertIsNone(looked(self.DESIGN))

    def test_num(self):
        for width in range(1, 9):
            self.tells(f"num {width} 1", width)

    def test_names(self):
        for name, width in (("p", 1), ("q", 2), ("t", 3), ("v", 8), ("w", 5), ("b", 6), ("z", 1), ("i.y", 4),
                            ("i.o", 1)):
            self.tells(name, width)

    def test_not(self):
        self.tells("not p", 1)
        self.tells("not v", 8)

    def test_and_or_xor(self):
        for word in ("and", "or", "xor"):
            self.tells(f"{word} p p", 1)
            self.tells(f"{word} q r", 2)
            self.tells(f"{word} u v", 8)

    def test_sum(self):
        self.tells("sum p p", 2)
        self.tells("sum q r", 3)
        self.tells("sum p t", 4)
        self.tells("sum t p", 4)
        self.tells("sum u p", 9)

    def test_same_and_below(self):
        for word in ("same", "below"):
            self.tells(f"{word} p p", 1)
            self.tells(f"{word} u v", 1)

    def test_pick(self):
        self.tells("pick p q r", 2)
        self.tells("pick p p p", 1)
        self.tells("pick p u v", 8)

    def test_join(self):
        self.tells("join p p", 2)
        self.tells("join q t", 5)
        self.tells("join u v", 16)

    def test_cut(self):
        self.tells("cut 3 t", 3)
        self.tells("cut 1 v", 1)
        self.tells("cut 8 join u v", 8)

    def test_bit(self):
        self.tells("bit 0 p", 1)
        self.tells("bit 7 v", 1)
        self.tells("bit 15 join u v", 1)

    def test_within_others(self):
        self.tells("not sum join q t not i.y", 6)
        self.tells("pick below i.y num 4 3 join p z and q r", 2)
        self.tells("join cut 2 w join z bit 2 b", 4)

    def test_places_may_be_any(self):
        for place in (None, (), (99, 99), "x"):
            e = ("join", place, ("name", place, "q"), ("cut", place, 3, ("name", place, "i.y")))
            self.assertEqual(wide(self.DESIGN, "top", e), 5)

    def test_of_several_clocks(self):
        self.tells("join p z", 2)

    def test_of_each_module(self):
        self.assertEqual(wide(self.DESIGN, "m", expression("a")), 7)
        self.assertEqual(wide(self.DESIGN, "m", expression("join a a")), 14)

    def test_rows_in_another_order(self):
        design = design_of(m=tuple(reversed(USED)), top=tuple(reversed(ROWS)))
        self.assertIsNone(looked(design))
        for name, width in (("p", 1), ("v", 8), ("w", 5), ("b", 6), ("z", 1), ("i.y", 4), ("i.o", 1)):
            self.assertEqual(wide(design, "top", expression(name)), width)


class Amiss(unittest.TestCase):
    def tells(self, row, place):
        """What is told of a row behind ROWS; a place there is a word, None where it is right."""
        told = looked(design_of(m=USED, top=ROWS + (row,)))
        self.assertEqual(told, None if place is None else ("width", "top", (len(ROWS), place)), row)

    def is_wide(self, words, width):
        """That an expression is right, and so wide and no other."""
        for other in range(1, 9):
            self.tells(f"wire x {other} {words}", None if other == width else 3)


class AsWideAsAsked(Amiss):
    def test_of_each_word(self):
        for words, width in (
            ("num 3 7", 3), ("p", 1), ("q", 2), ("v", 8), ("w", 5), ("b", 6), ("z", 1), ("i.y", 4), ("i.o", 1),
            ("not t", 3), ("and q r", 2), ("or q r", 2), ("xor q r", 2), ("sum q r", 3), ("sum p t", 4),
            ("sum t p", 4), ("same u v", 1), ("below u v", 1), ("pick p q r", 2), ("join q t", 5),
            ("cut 3 v", 3), ("cut 8 v", 8), ("bit 7 v", 1),
        ):
            self.is_wide(words, width)

    def test_in_each_row(self):
        self.tells("out y 2 c q", None)
        self.tells("out y 3 c q", 4)
        self.tells("out y 1 c not q", 4)
        self.tells("wire x 3 q", 3)
        self.tells("box x 2 c 3 q", None)
        self.tells("box x 1 c 1 q", 5)
        self.tells("box x 3 c 1 q", 5)
        self.tells("cross x d 0 p", None)
        self.tells("cross x d 0 q", 4)
        self.tells("cross x c 0 z", None)

    def test_handed_to_a_use(self):
        self.tells("use j m 1 c num 7 0", None)
        self.tells("use j m 1 c num 6 0", 5)
        self.tells("use j m 1 c num 8 0", 5)
        self.tells("use j m 1 c not not v", 5)

    def test_handed_to_a_use_of_several_ins(self):
        used = ("clock k", "in a 2 k", "in a 3 k", "in b 1 k")
        words = "use i m 1 c num {} 0 num {} 0 num {} 0"
        for widths, place in (((1, 3, 1), 5), ((2, 2, 1), 8), ((2, 3, 2), 11), ((1, 2, 2), 5), ((2, 2, 2), 8)):
            design = design_of(a=("clock c", words.format(*widths)), m=used)
            self.assertEqual(looked(design), ("name", "m", (2, 1)))
            design = design_of(a=("clock c", words.format(*widths)), m=("clock k", "in a 2 k", "in d 3 k", "in b 1 k"))
            self.assertEqual(looked(design), ("width", "a", (1, place)))

    def test_of_two_outs_so_called_the_first_one(self):
        # The module of the outs is amiss by its names, so its user is looked at by itself.
        face = ((), (), (("y", 2, None), ("y", 3, None)))
        for width, places in ((2, []), (3, [(1, 3)])):
            tree = read_module(f"use i m 0\nwire w {width} i.y")
            self.assertEqual(amiss_widths(Scope(tree, {"m": face})), places)


class Alike(Amiss):
    def test_place_of_the_second(self):
        for word in ("and", "or", "xor"):
            self.tells(f"wire x 2 {word} q r", None)
            self.tells(f"wire x 2 {word} q t", 5)
            self.tells(f"wire x 3 {word} q t", 5)
            self.tells(f"wire x 2 {word} not not q num 3 0", 7)
        for word in ("same", "below"):
            self.tells(f"wire x 1 {word} q r", None)
            self.tells(f"wire x 1 {word} q t", 5)
            self.tells(f"wire x 1 {word} t q", 5)
            self.tells(f"wire x 3 {word} q t", 5)

    def test_sum_and_join_of_any(self):
        self.tells("wire x 4 sum q t", None)
        self.tells("wire x 5 join q t", None)

    def test_pick(self):
        self.tells("wire x 2 pick p q r", None)
        self.tells("wire x 2 pick p q t", 6)
        self.tells("wire x 2 pick p not q num 3 0", 7)
        self.tells("wire x 2 pick q q r", 4)
        self.tells("wire x 2 pick not num 2 0 q r", 4)

    def test_pick_by_its_first_and_its_third(self):
        self.tells("wire x 2 pick q q t", 4)


class Bounds(Amiss):
    def test_num(self):
        for width in range(1, 9):
            self.tells(f"wire x {width} num {width} {2 ** width - 1}", None)
            self.tells(f"wire x {width} num {width} {2 ** width}", 3)
            self.tells(f"wire x {width} not num {width} {2 ** width}", 4)
        self.tells("wire x 8 num 8 65535", 3)

    def test_cut(self):
        self.tells("wire x 3 cut 3 t", None)
        self.tells("wire x 4 cut 4 t", 3)
        self.tells("wire x 4 not cut 4 t", 4)
        self.tells("wire x 1 cut 8 t", 3)

    def test_bit(self):
        self.tells("wire x 1 bit 2 t", None)
        self.tells("wire x 1 bit 3 t", 3)
        self.tells("wire x 1 not bit 65535 t", 4)
        self.tells("wire x 1 bit 15 join u v", None)
        self.tells("wire x 1 bit 16 join u v", 3)

    def test_sixteen_and_seventeen(self):
        self.tells("wire x 8 cut 8 join u v", None)
        self.tells("wire x 8 cut 8 join p join u v", 5)
        self.tells("wire x 8 cut 8 join join u v p", 5)
        self.tells("wire x 8 cut 8 sum join u u cut 7 v", 5)
        self.tells("wire x 8 cut 8 sum join u cut 7 v join u cut 7 v", None)
        self.tells("wire x 8 cut 8 join join t w u", None)
        self.tells("wire x 8 cut 8 join join t b u", 5)
        self.tells("wire x 1 same join u v join p join u v", 7)
        self.tells("wire x 8 join p join u v", 3)

    def test_the_join_of_two_of_sixteen(self):
        self.tells("wire x 8 cut 8 join join u v join u v", 5)


class FirstWorths(Amiss):
    def test_box(self):
        for width in range(1, 9):
            self.tells(f"box x {width} c {2 ** width - 1} num {width} 0", None)
            self.tells(f"box x {width} c {2 ** width} num {width} 0", 4)
        self.tells("box x 8 c 65535 num 8 0", 4)

    def test_cross(self):
        self.tells("cross x d 1 p", None)
        self.tells("cross x d 2 p", 3)
        self.tells("cross x d 65535 p", 3)

    def test_whatever_is_amiss_in_the_expression(self):
        for words in ("num 2 4", "num 3 0", "and q t", "not cut 5 q", "cut 2 join p join u v", "x"):
            self.tells("box x 2 c 4 " + words, 4)
        self.tells("cross x d 2 q", 3)
        self.tells("cross x d 2 x", 3)

    def test_of_the_row_alone(self):
        self.tells("box x 2 c 3 num 2 4", 5)
        self.tells("box x 2 c 3 num 3 4", 5)


class AroundWhatIsAmiss(Amiss):
    def test_nothing_is_asked_around_it(self):
        # In each of these what stands around would be amiss ahead of it, were it asked.
        for words, place in (
            ("and q num 1 2", 5),
            ("and num 1 2 q", 4),
            ("not not num 1 2", 5),
            ("cut 8 num 1 2", 5),
            ("bit 8 num 1 2", 5),
            ("cut 8 cut 2 p", 5),
            ("cut 8 bit 2 q", 5),
            ("bit 9 and q t", 7),
            ("join join u v join u join p num 1 2", 11),
            ("cut 1 join join p join u v v", 6),
            ("sum join u v join p and p q", 11),
            ("same q pick p q t", 8),
            ("xor pick q q q t", 5),
        ):
            self.tells("wire x 8 " + words, place)
            self.tells("out y 8 c " + words, place + 1)
            self.tells("box x 8 c 0 " + words, place + 2)
            self.tells("use j m 1 c " + words, place + 2)

    def test_pick_asks_nothing_of_its_first_either(self):
        self.tells("wire x 2 pick q num 2 4 r", 5)
        self.tells("wire x 2 pick q q num 2 4", 6)
        self.tells("wire x 2 pick q and q t r", 7)
        self.tells("wire x 2 pick num 1 2 q t", 4)
        self.tells("wire x 2 pick not num 2 4 q t", 5)

    def test_each_part_by_itself(self):
        scope = Scope(read_module("wire x 2 pick num 1 2 and num 1 0 num 2 0 not num 1 3"), {})
        self.assertEqual(sorted(amiss_widths(scope)), [(0, 4), (0, 11), (0, 15)])

    def test_where_a_module_cannot_be_read(self):
        rows = "wire x 2 not i.y\nuse i m 0 num 1 2 i.y\nwire v 1 pick num 2 0 i.y num 1 0\nwire u 1 and i.y bit 1 x"
        scope = Scope(read_module(rows), {"m": None})
        self.assertEqual(amiss_widths(scope), [(1, 4)])
        scope = Scope(read_module(rows.replace("bit 1 x", "bit 2 x")), {"m": None})
        self.assertEqual(sorted(amiss_widths(scope)), [(1, 4), (3, 5)])


class Rings(Amiss):
    def test_wires_in_a_ring_are_as_wide_as_they_tell(self):
        self.assertIsNone(looked_rows("wire a 2 b", "wire b 2 a", "wire d 1 d"))
        self.assertEqual(looked_rows("wire a 2 b", "wire b 3 a"), ("width", (0, 3)))


if __name__ == "__main__":
    unittest.main()
