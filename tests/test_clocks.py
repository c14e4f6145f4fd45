"""Point 8: the clocks of expressions, and which are amiss, and where."""

import unittest

from tests.asking import design_of, looked
from wiretongue.clocking import amiss_clocks
from wiretongue.looking import clocks
from wiretongue.reading import read_module
from wiretongue.scopes import Scope

# x, b, z and i.y are of clock c; p, q, r and i.o of clock d; e is a third one; w, v, s, o are wires.
ROWS = (
    "clock c",
    "clock d",
    "clock e",
    "in x 1 c",
    "in p 1 d",
    "box b 1 c 0 num 1 0",
    "box q 1 d 0 p",
    "cross z c 0 p",
    "cross r d 0 x",
    "use i m 2 d c p x",
    "wire w 1 x",
    "wire v 1 and w i.y",
    "wire s 1 not i.o",
    "wire o 1 num 1 0",
    "in t 1 e",
)
USED = ("clock k", "clock l", "in g 1 k", "in h 1 l", "out o 1 k g", "out y 1 l not h")


def expression(words):
    return read_module("wire w 1 " + words)[0][3]


class Clocks(unittest.TestCase):
    DESIGN = design_of(m=USED, top=ROWS)

    def tells(self, words, told):
        self.assertEqual(repr(clocks(self.DESIGN, "top", expression(words))), repr(told), words)

    def test_the_design_is_right(self):
        self.assertIsNone(looked(self.DESIGN))

    def test_none(self):
        self.tells("num 1 0", ())
        self.tells("not num 1 0", ())
        self.tells("o", ())

    def test_of_ins_boxes_and_crosses(self):
        for name, clock in (("x", "c"), ("b", "c"), ("z", "c"), ("p", "d"), ("q", "d"), ("r", "d"), ("t", "e")):
            self.tells(name, (clock,))

    def test_of_uses_by_the_clock_handed(self):
        self.tells("i.y", ("c",))
        self.tells("i.o", ("d",))

    def test_of_wires(self):
        self.tells("w", ("c",))
        self.tells("v", ("c",))
        self.tells("s", ("d",))

    def test_of_each_sort_of_expression(self):
        for word in ("and", "or", "xor", "sum", "same", "below", "join"):
            self.tells(f"{word} x num 1 0", ("c",))
            self.tells(f"{word} num 1 0 p", ("d",))
            self.tells(f"{word} p x", ("c", "d"))
        self.tells("pick t num 1 0 num 1 0", ("e",))
        self.tells("pick num 1 0 t num 1 0", ("e",))
        self.tells("pick num 1 0 num 1 0 t", ("e",))
        self.tells("pick t x p", ("c", "d", "e"))
        self.tells("cut 1 p", ("d",))
        self.tells("bit 0 p", ("d",))
        self.tells("not p", ("d",))

    def test_several_rising_and_unlike(self):
        self.tells("join t join p join x join i.o join w t", ("c", "d", "e"))
        self.tells("join t p", ("d", "e"))
        self.tells("join w join b z", ("c",))

    def test_names_rise_as_texts(self):
        rows = ("clock z", "clock ab", "clock b", "clock a", "in q 1 z", "in r 1 ab", "in s 1 b", "in t 1 a")
        e = expression("join join q r join s t")
        self.assertEqual(clocks(design_of(top=rows), "top", e), ("a", "ab", "b", "z"))

    def test_places_may_be_any(self):
        for place in (None, (), (99, 99), "x"):
            e = ("join", place, ("name", place, "t"), ("cut", place, 1, ("name", place, "i.y")))
            self.assertEqual(clocks(self.DESIGN, "top", e), ("c", "e"))

    def test_of_each_module(self):
        self.assertEqual(clocks(self.DESIGN, "m", expression("join g h")), ("k", "l"))

    def test_one_clock_handed_for_two(self):
        design = design_of(m=USED, top=("clock c", "in x 1 c", "use i m 2 c c x x"))
        self.assertEqual(clocks(design, "top", expression("join i.y i.o")), ("c",))

    def test_rows_in_another_order(self):
        # The clock rows stay as they are: a use hands its clocks in their order.
        rows = tuple(reversed(ROWS))
        used = USED[:2] + ("in g 1 k", "out y 1 l not h", "in h 1 l", "out o 1 k g")
        design = design_of(m=used, top=rows)
        self.assertIsNone(looked(design))
        for words, told in (("v", ("c",)), ("s", ("d",)), ("i.y", ("c",)), ("join s v", ("c", "d")), ("o", ())):
            self.assertEqual(clocks(design, "top", expression(words)), told)

    def test_by_the_order_of_the_clock_rows_of_the_used_one(self):
        used = ("clock l", "clock k") + USED[2:]
        design = design_of(m=used, top=("clock c", "clock d", "in x 1 c", "in p 1 d", "use i m 2 d c x p"))
        self.assertIsNone(looked(design))
        self.assertEqual(clocks(design, "top", expression("i.y")), ("d",))
        self.assertEqual(clocks(design, "top", expression("i.o")), ("c",))

    def test_wires_in_a_ring(self):
        rows = ("clock c", "in x 1 c", "wire a 1 and b x", "wire b 1 or f a", "wire f 1 b", "wire g 1 g")
        design = design_of(top=rows)
        self.assertIsNone(looked(design))
        for name in ("a", "b", "f"):
            self.assertEqual(clocks(design, "top", expression(name)), ("c",))
        self.assertEqual(clocks(design, "top", expression("g")), ())

    def test_use_of_a_use(self):
        mid = ("clock f", "clock g", "in a 1 f", "in b 1 g", "use j m 2 g f b a", "out y 1 f j.y", "out o 1 g j.o")
        top = ("clock c", "clock d", "in x 1 c", "in p 1 d", "use i mid 2 c d x p")
        design = design_of(m=USED, mid=mid, top=top)
        self.assertIsNone(looked(design))
        self.assertEqual(clocks(design, "top", expression("i.y")), ("c",))
        self.assertEqual(clocks(design, "top", expression("i.o")), ("d",))
        self.assertEqual(clocks(design, "mid", expression("j.y")), ("f",))


class Amiss(unittest.TestCase):
    def tells(self, row, word):
        """What is told of a row behind ROWS; None where it is right."""
        told = looked(design_of(m=USED, top=ROWS + (row,)))
        self.assertEqual(told, None if word is None else ("clock", "top", (len(ROWS), word)), row)

    def test_a_wire_of_more_than_one(self):
        for words in ("num 2 0", "join x x", "join x b", "join x w", "join v i.y", "join p s", "join o t"):
            self.tells("wire n 2 " + words, None)
        for words in ("join x p", "join p x", "join w p", "join x s", "join v s", "join i.y i.o", "join z r",
                      "join b q", "join x t", "join num 1 0 and x p"):
            self.tells("wire n 2 " + words, 3)

    def test_a_wire_through_a_wire_of_two(self):
        design = design_of(top=("clock c", "clock d", "in x 1 c", "in p 1 d", "wire a 1 b", "wire b 1 and x p"))
        self.assertEqual(looked(design), ("clock", "top", (4, 3)))

    def test_an_out(self):
        for words in ("num 1 0", "o", "x", "b", "z", "w", "v", "i.y", "not and x v"):
            self.tells("out n 1 c " + words, None)
        for words in ("p", "q", "r", "s", "i.o", "t", "and x p", "and p x", "not not s"):
            self.tells("out n 1 c " + words, 4)
        self.tells("out n 1 d p", None)
        self.tells("out n 1 d and p x", 4)

    def test_a_box(self):
        for words in ("num 1 0", "o", "x", "b", "z", "w", "v", "i.y", "not and x v", "n"):
            self.tells("box n 1 c 0 " + words, None)
        for words in ("p", "q", "r", "s", "i.o", "t", "and x p", "and p x", "not not s"):
            self.tells("box n 1 c 0 " + words, 5)
        self.tells("box n 1 d 1 p", None)
        self.tells("box n 1 d 1 and n x", 5)

    def test_handed_to_a_use(self):
        self.tells("use j m 2 d c s v", None)
        self.tells("use j m 2 c d x p", None)
        self.tells("use j m 2 c d num 1 0 o", None)
        self.tells("use j m 2 c d p p", 6)
        self.tells("use j m 2 c d x x", 7)
        self.tells("use j m 2 c d x not and p x", 7)
        self.tells("use j m 2 c d p x", 6)
        self.tells("use j m 2 c c x x", None)
        self.tells("use j m 2 c c x p", 7)

    def test_handed_for_an_in_of_no_clock(self):
        face = (("k",), (("g", 1, None), ("h", 1, 0)), (("y", 1, None),))
        rows = "clock c\nclock d\nin x 1 c\nin p 1 d\nuse i m 1 c {} {}\nwire w 1 and i.y p"
        for first, second, places in (("p", "x", []), ("and~x~p", "x", []), ("p", "p", [(4, 6)])):
            tree = read_module(rows.format(first, second).replace("~", " "))
            self.assertEqual(amiss_clocks(Scope(tree, {"m": face})), places)

    def test_a_module_that_cannot_be_read_asks_nothing(self):
        tree = read_module("clock c\nclock d\nin x 1 c\nuse i m 1 d x\nout y 1 d i.y\nout z 1 d and i.y x")
        self.assertEqual(amiss_clocks(Scope(tree, {"m": None})), [(5, 4)])

    def test_a_cross(self):
        for name in ("p", "q", "r", "t"):
            self.tells(f"cross n c 0 {name}", None)
        for name in ("x", "b", "z"):
            self.tells(f"cross n c 0 {name}", 4)
            self.tells(f"cross n d 0 {name}", None)

    def test_a_cross_of_a_wire(self):
        for name in ("w", "v", "s", "o"):
            self.tells(f"cross n c 0 {name}", 4)
            self.tells(f"cross n d 0 {name}", 4)

    def test_a_cross_of_itself(self):
        self.tells("cross n c 0 n", 4)

    def test_two_crosses_of_each_other(self):
        design = design_of(top=("clock c", "clock d", "cross a c 0 b", "cross b d 1 a"))
        self.assertIsNone(looked(design))

    def test_the_clock_of_a_cross_is_its_own(self):
        self.tells("out n 1 c z", None)
        self.tells("out n 1 d z", 4)

    def test_a_use_of_one_clock_handed_for_two(self):
        used = ("clock k", "clock l", "in g 1 k", "cross h l 0 g", "out y 1 l h")
        design = design_of(m=used, top=("clock c", "in x 1 c", "use i m 2 c c x", "out y 1 c i.y"))
        self.assertIsNone(looked(design))

    def test_rings_of_wires_of_two_clocks(self):
        rows = ("clock c", "clock d", "in x 1 c", "in p 1 d", "wire a 1 and b x", "wire b 1 or a p")
        self.assertEqual(looked(design_of(top=rows)), ("clock", "top", (4, 3)))
        scope = Scope(read_module("\n".join(rows)), {})
        self.assertEqual(amiss_clocks(scope), [(4, 3), (5, 3)])


if __name__ == "__main__":
    unittest.main()
