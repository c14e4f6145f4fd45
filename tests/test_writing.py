"""Point 5: a tree written as its text, and led back."""

import unittest

from tests.asking import text_of
from wiretongue.reading import read_module
from wiretongue.writing import show_module

ROWS = (
    "clock c",
    "in x 8 c",
    "out y 4 c i.y",
    "wire a 1 num 8 255",
    "wire b 1 not x",
    "wire d 2 and or x y xor sum x y same x y",
    "wire e 3 below join x y cut 3 x",
    "wire f 3 pick bit 65535 x y z",
    "box g 5 c 31 x",
    "cross h d 0 g",
    "use i m 0",
    "use j m 1 c",
    "use k m 4 c d e f x not y num 1 0 join a b i.y z",
)


class Writing(unittest.TestCase):
    def test_no_rows(self):
        self.assertEqual(show_module(()), "")

    def test_each_row_from_a_tree(self):
        x = ("name", (0, 0), "x")
        for row, text in (
            (("clock", "c"), "clock c"),
            (("in", "x", 8, "c"), "in x 8 c"),
            (("out", "y", 4, "c", ("name", (0, 4), "i.y")), "out y 4 c i.y"),
            (("wire", "w", 1, ("num", (0, 3), 1, 0)), "wire w 1 num 1 0"),
            (("box", "b", 3, "c", 7, x), "box b 3 c 7 x"),
            (("cross", "z", "d", 1, x), "cross z d 1 x"),
            (("use", "i", "m", (), ()), "use i m 0"),
            (("use", "i", "m", ("c", "d"), ()), "use i m 2 c d"),
            (("use", "i", "m", (), (x, x)), "use i m 0 x x"),
            (("use", "i", "m", ("c",), (("not", (0, 5), x), x)), "use i m 1 c not x x"),
        ):
            self.assertEqual(show_module((row,)), text)

    def test_each_expression_from_a_tree(self):
        x, y, z = [("name", (0, 0), word) for word in ("x", "i.y", "z")]
        for e, words in (
            (x, "x"),
            (y, "i.y"),
            (("num", (0, 0), 8, 200), "num 8 200"),
            (("not", (0, 0), x), "not x"),
            (("and", (0, 0), x, y), "and x i.y"),
            (("or", (0, 0), y, x), "or i.y x"),
            (("xor", (0, 0), x, z), "xor x z"),
            (("sum", (0, 0), x, z), "sum x z"),
            (("same", (0, 0), x, z), "same x z"),
            (("below", (0, 0), z, x), "below z x"),
            (("join", (0, 0), x, z), "join x z"),
            (("pick", (0, 0), x, y, z), "pick x i.y z"),
            (("cut", (0, 0), 3, x), "cut 3 x"),
            (("bit", (0, 0), 0, x), "bit 0 x"),
            (("not", (0, 0), ("cut", (0, 0), 2, ("and", (0, 0), x, y))), "not cut 2 and x i.y"),
        ):
            self.assertEqual(show_module((("wire", "w", 1, e),)), "wire w 1 " + words)

    def test_several_rows(self):
        self.assertEqual(show_module((("clock", "c"), ("clock", "d"))), "clock c\nclock d")

    def test_texts_come_back(self):
        for row in ROWS:
            self.assertEqual(show_module(read_module(row)), row)
        for many in range(len(ROWS) + 1):
            text = text_of(*ROWS[:many])
            self.assertEqual(show_module(read_module(text)), text)

    def test_trees_come_back(self):
        for many in range(len(ROWS) + 1):
            tree = read_module(text_of(*ROWS[:many]))
            self.assertEqual(repr(read_module(show_module(tree))), repr(tree))

    def test_twelve_within_one_another(self):
        text = "wire w 1 " + "not " * 11 + "x"
        self.assertEqual(show_module(read_module(text)), text)

    def test_wide_expressions(self):
        words = "x"
        for _ in range(6):
            words = f"pick {words} {words} {words}"
        text = text_of(*[f"wire w 1 {words}"] * 3)
        self.assertEqual(show_module(read_module(text)), text)


if __name__ == "__main__":
    unittest.main()
