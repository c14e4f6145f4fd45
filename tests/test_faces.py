"""Point 6: a module's face."""

import unittest

from tests.asking import text_of
from wiretongue.faces import face_of
from wiretongue.reading import read_module


class Faces(unittest.TestCase):
    def tells(self, rows, face):
        self.assertEqual(repr(face_of(read_module(text_of(*rows)))), repr(face))

    def test_no_rows(self):
        self.tells((), ((), (), ()))

    def test_other_rows_are_not_told(self):
        rows = ("wire w 1 x", "box b 1 c 0 x", "cross z c 0 b", "use i m 1 c x")
        self.tells(rows, ((), (), ()))

    def test_clocks_ins_and_outs_in_the_order_of_rows(self):
        rows = ("out z 3 c x", "in x 1 d", "clock d", "wire w 1 x", "in a 8 c", "clock c", "out b 2 d x")
        self.tells(rows, (
            ("d", "c"),
            (("x", 1, 0), ("a", 8, 1)),
            (("z", 3, 1), ("b", 2, 0)),
        ))

    def test_no_clock_row(self):
        rows = ("in x 1 c", "clock d", "out y 2 e x")
        self.tells(rows, (("d",), (("x", 1, None),), (("y", 2, None),)))

    def test_a_clock_of_another_kind_of_row_is_none(self):
        rows = ("in c 1 d", "wire d 1 c", "out y 1 c d")
        self.tells(rows, ((), (("c", 1, None),), (("y", 1, None),)))

    def test_rows_whose_name_was_had(self):
        rows = ("clock c", "clock c", "in c 1 c", "in x 2 c", "in x 3 c", "out x 4 c x", "out x 5 c x")
        self.tells(rows, (
            ("c", "c"),
            (("c", 1, 0), ("x", 2, 0), ("x", 3, 0)),
            (("x", 4, 0), ("x", 5, 0)),
        ))

    def test_the_first_clock_so_called_though_its_name_was_had(self):
        rows = ("clock a", "wire c 1 x", "clock c", "clock c", "in x 1 c", "out c 2 c x")
        self.tells(rows, (("a", "c", "c"), (("x", 1, 1),), (("c", 2, 1),)))

    def test_the_number_of_a_third_clock(self):
        rows = ("clock a", "clock b", "in x 1 d", "clock a", "clock d", "out y 1 d x")
        self.tells(rows, (("a", "b", "a", "d"), (("x", 1, 3),), (("y", 1, 3),)))


if __name__ == "__main__":
    unittest.main()
