"""Points 2 and 9: the stages in turn, the least place of each, and that all is told soon."""

import unittest

from tests.asking import design_of, looked, looked_rows, refused
from wiretongue.errors import Fault, Nested, WireError
from wiretongue.flat import flat_of
from wiretongue.looking import clocks, look, wide
from wiretongue.reading import read_module

READ = "clock c\nwhat"
NAME = "clock c\nwire w 1 x"
WIDTH = "clock c\nwire w 1 num 2 0"
CLOCK = "clock c\nwire w 1 num 1 0\ncross z c 0 w"
RIGHT = "clock c\nin x 1 c\nout y 1 c x"

READ_AT = ("read", (1, 0))
NAME_AT = ("name", (1, 3))
WIDTH_AT = ("width", (1, 3))
CLOCK_AT = ("clock", (2, 4))


class Look(unittest.TestCase):
    def tells(self, told, **texts):
        self.assertEqual(looked(design_of(**texts)), told)

    def test_right(self):
        self.tells(None, top=RIGHT)
        self.tells(None, a=RIGHT, b=RIGHT, top="")
        self.tells(None, top="")
        self.assertIsNone(look(design_of(top=RIGHT)))

    def test_each_stage_alone(self):
        for text, (stage, place) in ((READ, READ_AT), (NAME, NAME_AT), (WIDTH, WIDTH_AT), (CLOCK, CLOCK_AT)):
            self.tells((stage, "top", place), top=text)
            self.tells((stage, "b", place), a=RIGHT, b=text, top=RIGHT)

    def test_read_is_ahead_of_name(self):
        self.tells(("read", "b", (1, 0)), a=NAME, b=READ)
        self.tells(("read", "a", (1, 0)), a=READ, b=NAME)

    def test_read_is_ahead_of_nested(self):
        self.tells(("read", "b", (1, 0)), a="use i a 0", b=READ)

    def test_name_is_ahead_of_width(self):
        self.tells(("name", "b", (1, 3)), a=WIDTH, b=NAME)
        self.tells(("name", "a", (1, 3)), a=NAME, b=WIDTH)

    def test_name_is_ahead_of_nested(self):
        self.tells(("name", "b", (1, 3)), a="use i a 0", b=NAME)

    def test_nested_is_ahead_of_width(self):
        self.tells(("nested", ("b",)), a=WIDTH, b="use i b 0")

    def test_width_is_ahead_of_clock(self):
        self.tells(("width", "b", (1, 3)), a=CLOCK, b=WIDTH)
        self.tells(("width", "a", (1, 3)), a=WIDTH, b=CLOCK)

    def test_nested_is_ahead_of_clock(self):
        self.tells(("nested", ("b",)), a=CLOCK, b="use i b 0")

    def test_stages_within_one_module(self):
        self.assertEqual(looked_rows("clock c", "wire a 1 num 2 0", "wire b 1 x"), ("name", (2, 3)))
        self.assertEqual(looked_rows("clock c", "cross a c 0 a", "wire b 1 num 2 0"), ("width", (2, 3)))
        self.assertEqual(looked_rows("clock c", "wire b 1 x", "what"), ("read", (2, 0)))

    def test_the_least_module(self):
        for text, (stage, place) in ((READ, READ_AT), (NAME, NAME_AT), (WIDTH, WIDTH_AT), (CLOCK, CLOCK_AT)):
            self.tells((stage, "b", place), a=RIGHT, b=text, c=text, d=text)
            # The least module goes ahead of a lesser place.
            self.tells((stage, "b", (place[0] + 1, place[1])), b="clock d\n" + text, c=text)

    def test_modules_rise_as_texts(self):
        self.tells(("name", "ab", (1, 3)), ab=NAME, b=NAME)
        self.tells(("name", "a", (1, 3)), a=NAME, aa=NAME)

    def test_the_least_place_of_read(self):
        self.assertEqual(looked_rows("clock c", "in x 9 C", "what"), ("read", (1, 2)))

    def test_the_least_place_of_name(self):
        self.assertEqual(looked_rows("clock c", "in x 1 d", "wire x 1 y"), ("name", (1, 3)))
        self.assertEqual(looked_rows("clock c", "in x 1 c", "out x 1 d y"), ("name", (2, 1)))
        self.assertEqual(looked_rows("clock c", "in x 1 c", "out y 1 d y"), ("name", (2, 3)))
        self.assertEqual(looked_rows("clock c", "wire y 1 and u v"), ("name", (1, 4)))

    def test_the_least_place_of_width(self):
        self.assertEqual(looked_rows("clock c", "wire y 1 join num 1 2 num 1 3", "wire x 1 num 2 0"),
                         ("width", (1, 4)))
        self.assertEqual(looked_rows("clock c", "box b 1 c 2 num 1 3"), ("width", (1, 4)))
        rows = ["wire w 1 num 1 0"] * 9
        for k in range(9):
            rows[k] = f"wire {'abcdefghi'[k]} 1 num 1 0"
        rows += ["wire j 1 num 2 0", "wire k 1 num 2 0"]
        self.assertEqual(looked_rows(*rows), ("width", (9, 3)))
        # Rows and words go by number, not as texts.
        self.assertEqual(looked_rows(*reversed(rows)), ("width", (0, 3)))
        rows[2] = "wire c 1 num 2 0"
        self.assertEqual(looked_rows(*rows), ("width", (2, 3)))

    def test_the_least_place_of_clock(self):
        rows = ("clock c", "clock d", "in x 1 c", "out y 1 d x", "cross z d 0 x", "wire w 2 join x z")
        self.assertEqual(looked_rows(*rows), ("clock", (3, 4)))
        self.assertEqual(looked_rows(*rows[:3], *rows[4:]), ("clock", (4, 3)))

    def test_what_is_told_is_of_just_the_classes(self):
        fault = refused(Fault, look, design_of(top=NAME))
        self.assertEqual(repr((fault.stage, fault.module, fault.place)), "('name', 'top', (1, 3))")
        nested = refused(Nested, look, design_of(a="use i a 0"))
        self.assertEqual(repr(nested.ring), "('a',)")
        self.assertIsInstance(fault, WireError)

    def test_a_module_that_is_fine_but_that_its_user_is_not(self):
        self.tells(("name", "top", (1, 3)), m=RIGHT, top="clock c\nuse i m 0 num 1 0")

    def test_a_module_put_in_twice(self):
        for text, (stage, place) in ((READ, READ_AT), (NAME, NAME_AT), (WIDTH, WIDTH_AT), (CLOCK, CLOCK_AT)):
            first = looked(design_of(a=text))
            self.assertEqual(looked(design_of(a=text, b=text)), first)
            self.assertEqual(first, (stage, "a", place))

    def test_nothing_hangs_on_what_was_asked_between(self):
        designs = [design_of(top=text) for text in (RIGHT, READ, NAME, WIDTH, CLOCK, "use i top 0")]
        first = [looked(design) for design in designs]
        self.assertEqual([looked(design) for design in reversed(designs)], first[::-1])
        self.assertEqual([looked(design) for design in designs], first)


def letters(k):
    """An unlike name for each number."""
    return "w" + "abcdefghijklmnopqrstuvwxyz"[k // 26] + "abcdefghijklmnopqrstuvwxyz"[k % 26]


class Soon(unittest.TestCase):
    """Were a name reckoned anew wherever it stands, none of these would end."""

    def chain(self, many, words, times, width=1):
        rows = ["clock c", f"in {letters(0)} {width} c"]
        for k in range(1, many):
            rows.append(f"wire {letters(k)} {width} " + words.format(*([letters(k - 1)] * times)))
        return design_of(top=rows), letters(many - 1)

    def asks(self, many, words, times, width=1):
        for _ in range(2):
            design, last = self.chain(many, words, times, width)
            e = ("name", (0, 0), last)
            self.assertIsNone(look(design))
            self.assertEqual(wide(design, "top", e), width)
            self.assertEqual(clocks(design, "top", e), ("c",))
            flat, whence = flat_of(design, "top")
            self.assertEqual(len(flat), many)
            self.assertEqual(whence, tuple(("top", k + 1) for k in range(many)))

    def test_twenty_six_wires_that_name_the_one_ahead_twice(self):
        self.asks(27, "xor {} {}", 2)

    def test_thirty_that_name_it_several_times(self):
        self.asks(29, "and {} or {} xor {} {}", 4)
        words = "{}"
        for _ in range(5):
            words = f"pick {words} {words} {words}"
        self.asks(29, words, 243)

    def test_far_more_than_thirty(self):
        self.asks(300, "and {} {}", 2)

    def test_backward(self):
        design, last = self.chain(29, "xor {} {}", 2)
        rows = read_module(design[0][1])
        self.assertEqual(len(rows), 30)
        lines = design[0][1].split("\n")
        design = (("top", "\n".join(reversed(lines))),)
        self.assertIsNone(look(design))
        self.assertEqual(clocks(design, "top", ("name", (0, 0), last)), ("c",))
        self.assertEqual(len(flat_of(design, "top")[0]), 29)

    def test_wires_that_each_name_all(self):
        names = [letters(k) for k in range(28)]
        rows = ["clock c", "in x 1 c"] + [
            f"wire {names[k]} 1 and and {names[(k + 1) % 28]} {names[(k + 7) % 28]} and x {names[(k * 5) % 28]}"
            for k in range(28)]
        self.assertIsNone(looked_rows(*rows))
        self.assertEqual(clocks(design_of(top=rows), "top", ("name", (0, 0), names[3])), ("c",))


if __name__ == "__main__":
    unittest.main()
