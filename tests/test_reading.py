"""Points 4 and 5: reading a module's text, and where a text goes on no further."""

import unittest

from tests.asking import refused, text_of
from wiretongue.errors import NoText
from wiretongue.reading import read_module
from wiretongue.writing import show_module


def place_of(text):
    return refused(NoText, read_module, text).place


class Reading(unittest.TestCase):
    def reads(self, text, tree):
        # By repr, so that lists, truths and the like in the place of others are seen.
        self.assertEqual(repr(read_module(text)), repr(tree))

    def amiss(self, text, place):
        self.assertEqual(repr(place_of(text)), repr(place), text)


class Rows(Reading):
    def test_no_rows(self):
        self.reads("", ())

    def test_clock(self):
        self.reads("clock c", (("clock", "c"),))

    def test_in(self):
        self.reads("in x 3 c", (("in", "x", 3, "c"),))

    def test_out(self):
        self.reads("out y 3 c x", (("out", "y", 3, "c", ("name", (0, 4), "x")),))

    def test_wire(self):
        self.reads("wire a 2 b", (("wire", "a", 2, ("name", (0, 3), "b")),))

    def test_the_row_that_the_document_tells(self):
        text = text_of("clock c", "clock d", "clock e", "wire a 2 not b")
        wire = ("wire", "a", 2, ("not", (3, 3), ("name", (3, 4), "b")))
        self.reads(text, (("clock", "c"), ("clock", "d"), ("clock", "e"), wire))

    def test_box(self):
        self.reads("box b 8 c 255 b", (("box", "b", 8, "c", 255, ("name", (0, 5), "b")),))

    def test_cross(self):
        self.reads("cross x c 1 y", (("cross", "x", "c", 1, ("name", (0, 4), "y")),))

    def test_use_of_none(self):
        self.reads("use i m 0", (("use", "i", "m", (), ()),))

    def test_use_with_clocks_from_one_to_four(self):
        for many in range(1, 5):
            names = ("c", "d", "e", "f")[:many]
            text = " ".join(("use", "i", "m", str(many)) + names)
            self.reads(text, (("use", "i", "m", names, ()),))

    def test_use_with_expressions_from_one_to_six(self):
        for many in range(1, 7):
            names = ("p", "q", "r", "s", "t", "u")[:many]
            text = " ".join(("use", "i", "m", "1", "c") + names)
            parts = tuple(("name", (0, 5 + k), name) for k, name in enumerate(names))
            self.reads(text, (("use", "i", "m", ("c",), parts),))

    def test_use_with_expressions_of_several_words(self):
        parts = (("not", (0, 5), ("name", (0, 6), "p")), ("num", (0, 7), 2, 3), ("name", (0, 10), "j.q"))
        self.reads("use i m 1 c not p num 2 3 j.q", (("use", "i", "m", ("c",), parts),))

    def test_use_without_clocks_with_an_expression(self):
        self.reads("use i m 0 p", (("use", "i", "m", (), (("name", (0, 4), "p"),)),))

    def test_several_rows(self):
        self.reads("clock c\nin x 1 c\nout y 1 c x", (
            ("clock", "c"),
            ("in", "x", 1, "c"),
            ("out", "y", 1, "c", ("name", (2, 4), "x")),
        ))

    def test_names_need_not_be_there_nor_be_unlike(self):
        self.reads("clock a\nclock a\nwire a 1 zzz", (
            ("clock", "a"), ("clock", "a"), ("wire", "a", 1, ("name", (2, 3), "zzz"))))

    def test_more_rows_than_a_design_has(self):
        rows = [f"wire {'ab'[k % 2]} 1 c" for k in range(400)]
        tree = read_module("\n".join(rows))
        self.assertEqual(len(tree), 400)
        self.assertEqual(tree[399], ("wire", "b", 1, ("name", (399, 3), "c")))


class Expressions(Reading):
    def tells(self, words, e):
        self.reads("wire w 1 " + words, (("wire", "w", 1, e),))

    def test_num(self):
        self.tells("num 4 15", ("num", (0, 3), 4, 15))

    def test_names(self):
        self.tells("x", ("name", (0, 3), "x"))
        self.tells("i.y", ("name", (0, 3), "i.y"))
        self.tells("abcdef.ghijkl", ("name", (0, 3), "abcdef.ghijkl"))
        self.tells("name", ("name", (0, 3), "name"))

    def test_not(self):
        self.tells("not x", ("not", (0, 3), ("name", (0, 4), "x")))

    def test_those_of_two(self):
        for word in ("and", "or", "xor", "sum", "same", "below", "join"):
            self.tells(word + " x y", (word, (0, 3), ("name", (0, 4), "x"), ("name", (0, 5), "y")))

    def test_pick(self):
        names = (("name", (0, 4), "x"), ("name", (0, 5), "y"), ("name", (0, 6), "z"))
        self.tells("pick x y z", ("pick", (0, 3), *names))

    def test_cut(self):
        self.tells("cut 3 x", ("cut", (0, 3), 3, ("name", (0, 5), "x")))

    def test_bit(self):
        self.tells("bit 3 x", ("bit", (0, 3), 3, ("name", (0, 5), "x")))

    def test_several_within_one_another(self):
        self.tells("pick not a and b num 2 1 cut 1 i.y", (
            "pick", (0, 3),
            ("not", (0, 4), ("name", (0, 5), "a")),
            ("and", (0, 6), ("name", (0, 7), "b"), ("num", (0, 8), 2, 1)),
            ("cut", (0, 11), 1, ("name", (0, 13), "i.y")),
        ))

    def test_an_expression_in_each_row(self):
        within = ("not", None, ("name", None, "x"))

        def placed(row, word):
            return ("not", (row, word), ("name", (row, word + 1), within[2][2]))

        text = text_of("out y 1 c not x", "wire w 1 not x", "box b 1 c 0 not x", "use i m 1 c not x")
        self.reads(text, (
            ("out", "y", 1, "c", placed(0, 4)),
            ("wire", "w", 1, placed(1, 3)),
            ("box", "b", 1, "c", 0, placed(2, 5)),
            ("use", "i", "m", ("c",), (placed(3, 5),)),
        ))


class Depth(Reading):
    def test_twelve_within_one_another(self):
        e = ("name", (0, 14), "x")
        for word in range(13, 2, -1):
            e = ("not", (0, word), e)
        self.reads("wire w 1 " + "not " * 11 + "x", (("wire", "w", 1, e),))

    def test_a_num_and_a_point_name_as_the_twelfth(self):
        for words, e in (("num 1 0", ("num", (0, 14), 1, 0)), ("i.y", ("name", (0, 14), "i.y"))):
            tree = read_module("wire w 1 " + "not " * 11 + words)
            told = tree[0][3]
            for _ in range(11):
                told = told[2]
            self.assertEqual(told, e)

    def test_the_thirteenth(self):
        for last in ("not x", "not", "and x y", "pick x y z", "cut 1 x", "bit 0 x", "join x y", "one"):
            self.amiss("wire w 1 " + "not " * 11 + last, (0, 14))

    def test_depth_is_of_each_part_alone(self):
        deep = "not " * 10 + "x"
        for words in (f"and {deep} {deep}", f"pick {deep} {deep} {deep}", f"cut 1 {deep}", f"bit 9 {deep}"):
            self.assertEqual(show_module(read_module("wire w 1 " + words)), "wire w 1 " + words)

    def test_the_thirteenth_as_a_later_part(self):
        deep = "not " * 10 + "x"
        deeper = "not " * 11 + "x"
        self.amiss(f"wire w 1 and {deep} {deeper}", (0, 4 + 11 + 10))
        self.amiss(f"wire w 1 and {deeper} {deep}", (0, 4 + 10))
        self.amiss(f"wire w 1 pick x {deep} {deeper}", (0, 5 + 11 + 10))
        self.amiss(f"wire w 1 cut 1 {deeper}", (0, 5 + 10))
        self.amiss(f"wire w 1 bit 1 {deeper}", (0, 5 + 10))

    def test_depth_in_each_row_with_expressions(self):
        heads = ("out y 1 c", "wire w 1", "box b 1 c 0", "use i m 0", "use i m 1 c", "use i m 1 c x")
        for head in heads:
            many = len(head.split(" "))
            text = head + " " + "not " * 11 + "x"
            self.assertEqual(show_module(read_module(text)), text)
            self.amiss(head + " " + "not " * 12 + "x", (0, many + 11))

    def test_depth_begins_anew_with_each_expression_of_a_use(self):
        deep = "not " * 11 + "x"
        text = "use i m 0 " + " ".join([deep] * 6)
        self.assertEqual(show_module(read_module(text)), text)


class Widths(Reading):
    ROWS = (("in x {} c", 2), ("out y {} c x", 2), ("wire w {} x", 2), ("box b {} c 0 x", 2),
            ("wire w 1 num {} 0", 4), ("wire w 1 cut {} x", 4), ("use i m 0 num {} 0", 5))

    def test_right(self):
        for row, _ in self.ROWS:
            for width in range(1, 9):
                text = row.format(width)
                self.assertEqual(show_module(read_module(text)), text)

    def test_amiss(self):
        for row, word in self.ROWS:
            for width in ("0", "9", "10", "11", "16", "01", "08", "00", "-1", "+1", "1.0", "x", "one",
                          "", "\t1", "1\t", "\xb2", "\u0661", "9" * 5000, "1" * 5000, "_1", "1_1"):
                self.amiss(row.format(width), (0, word))


class Numbers(Reading):
    ROWS = (("box b 1 c {} x", 4), ("cross x c {} y", 3), ("wire w 1 num 8 {}", 5), ("wire w 1 bit {} x", 4))

    def test_right(self):
        for row, _ in self.ROWS:
            for number in (0, 1, 7, 9, 10, 255, 256, 1000, 9999, 10000, 65534, 65535):
                text = row.format(number)
                self.assertEqual(show_module(read_module(text)), text)

    def test_told_as_whole_numbers(self):
        self.reads("box b 1 c 65535 x", (("box", "b", 1, "c", 65535, ("name", (0, 5), "x")),))
        self.reads("cross x c 0 y", (("cross", "x", "c", 0, ("name", (0, 4), "y")),))
        self.reads("wire w 1 bit 1 x", (("wire", "w", 1, ("bit", (0, 3), 1, ("name", (0, 5), "x"))),))

    def test_amiss(self):
        for row, word in self.ROWS:
            for number in ("65536", "65537", "70000", "99999", "100000", "00", "01", "007", "065535", "-0",
                           "-1", "+1", "1e3", "0x1", "1,000", "x", "", "1_0", "\u0661", "\xb2", "1\t",
                           "0" * 5000, "9" * 5000, "true", "1.", ".1"):
                self.amiss(row.format(number), (0, word))

    def test_how_many_clocks(self):
        for many in range(5):
            text = " ".join(["use i m", str(many)] + ["c"] * many)
            self.assertEqual(read_module(text)[0][3], ("c",) * many)
        for many in ("5", "6", "10", "00", "01", "04", "-1", "x", "", "c", "40"):
            self.amiss(f"use i m {many} c c c c c", (0, 3))


class Names(Reading):
    ROWS = (("clock {}", 1), ("in {} 1 c", 1), ("in x 1 {}", 3), ("out {} 1 c x", 1), ("out y 1 {} x", 3),
            ("wire {} 1 x", 1), ("box {} 1 c 0 x", 1), ("box b 1 {} 0 x", 3), ("cross {} c 0 y", 1),
            ("cross x {} 0 y", 2), ("cross x c 0 {}", 4), ("use {} m 0", 1), ("use i {} 0", 2),
            ("use i m 1 {}", 4), ("use i m 4 c d e {} x", 7))
    KEPT = ("clock in out wire box cross use num not and or xor sum same below pick join cut bit one").split(" ")

    def test_right(self):
        for row, _ in self.ROWS:
            for name in ("a", "z", "name", "top", "abcdef", "zzzzzz", "ones", "bi"):
                text = row.format(name)
                self.assertEqual(show_module(read_module(text)), text)

    def test_amiss(self):
        for row, word in self.ROWS:
            for name in self.KEPT + ["abcdefg", "", "A", "aB", "a1", "1", "a.b", "a.", ".a", "a_b", "\xe4", "a\t"]:
                self.amiss(row.format(name), (0, word))

    def test_amiss_in_expressions(self):
        kept = [word for word in self.KEPT
                if word not in ("num not and or xor sum same below pick join cut bit").split(" ")]
        for name in kept + ["abcdefg", "", "A", "a1", "1", "0", "a.", ".a", ".", "..", "a..b", "a.b.c",
                            "a.one", "one.a", "in.a", "a.in", "abcdefg.a", "a.abcdefg", "a.B", "not.x", "name_",
                            "a,b", "(a)"]:
            self.amiss(f"wire w 1 {name}", (0, 3))
            self.amiss(f"wire w 1 and x {name}", (0, 5))
            self.amiss(f"use i m 0 {name}", (0, 4))

    def test_words_of_expressions_are_no_names_of_rows(self):
        self.amiss("wire not 1 x", (0, 1))
        self.amiss("cross x c 0 not y", (0, 4))
        self.amiss("cross x c 0 num 1 0", (0, 4))
        self.amiss("cross x c 0 i.y", (0, 4))


class Ends(Reading):
    ROWS = ("clock c", "in x 8 c", "out y 8 c x", "wire w 8 x", "box b 8 c 7 x", "cross x c 1 y", "use i m 0",
            "use i m 1 c", "use i m 4 c d e f")
    EXPRESSIONS = ("num 8 9", "not x", "and x y", "or x y", "xor x y", "sum x y", "same x y", "below x y",
                   "join x y", "pick x y z", "cut 3 x", "bit 3 x", "pick not x and y z cut 2 num 3 4")

    def test_a_word_too_few(self):
        for row in self.ROWS + tuple("wire w 1 " + e for e in self.EXPRESSIONS):
            words = row.split(" ")
            for many in range(1, len(words)):
                self.amiss(" ".join(words[:many]), (0, many))

    def test_a_word_too_few_with_rows_behind(self):
        for row in self.ROWS:
            words = row.split(" ")
            for many in range(1, len(words)):
                self.amiss(text_of("clock c", " ".join(words[:many]), "clock", "what"), (1, many))

    def test_a_word_too_many(self):
        for row in self.ROWS[:6] + tuple("wire w 1 " + e for e in self.EXPRESSIONS):
            for word in ("x", "0", "clock", "num", ""):
                self.amiss(row + " " + word, (0, len(row.split(" "))))
                self.amiss(text_of("clock c", row + " " + word + " x"), (1, len(row.split(" "))))

    def test_a_use_goes_on_with_expressions_alone(self):
        for word in ("1", "clock", "use", "one", "", "A"):
            self.amiss("use i m 0 " + word, (0, 4))
            self.amiss("use i m 1 c x " + word, (0, 6))

    def test_a_seventh_expression(self):
        six = "use i m 2 c d" + " x" * 6
        self.assertEqual(len(read_module(six)[0][4]), 6)
        for words in ("x", "not x", "num 1 0", "not", "1", "", "what ever"):
            self.amiss(six + " " + words, (0, 12))
        longer = "use i m 0" + " and x y" * 6
        self.assertEqual(len(read_module(longer)[0][4]), 6)
        self.amiss(longer + " not x", (0, 22))

    def test_use_ends_within_an_expression(self):
        self.amiss("use i m 0 x not", (0, 6))
        self.amiss("use i m 0 and x", (0, 6))
        self.amiss("use i m 3 c d", (0, 6))

    def test_words_at_the_head_of_a_row(self):
        for word in ("x", "name", "Clock", "clocks", "num", "not", "one", "1", "\t", "row"):
            self.amiss(word, (0, 0))
            self.amiss(word + " c", (0, 0))
            self.amiss(text_of("clock c", word), (1, 0))


class Blanks(Reading):
    def test_two_blanks_together(self):
        for row in ("clock c", "in x 8 c", "wire w 1 and x y", "use i m 1 c x"):
            words = row.split(" ")
            for k in range(1, len(words)):
                self.amiss(" ".join(words[:k]) + "  " + " ".join(words[k:]), (0, k))

    def test_a_blank_at_the_end(self):
        for row in ("clock c", "in x 8 c", "wire w 1 and x y", "cross x c 1 y", "use i m 1 c x", "use i m 0"):
            self.amiss(row + " ", (0, len(row.split(" "))))
            self.amiss(row + "  ", (0, len(row.split(" "))))
            self.amiss(row + " \nclock c", (0, len(row.split(" "))))

    def test_a_blank_ahead(self):
        self.amiss(" clock c", (0, 0))
        self.amiss("clock c\n clock d", (1, 0))

    def test_nothing_but_blanks(self):
        self.amiss(" ", (0, 0))
        self.amiss("   ", (0, 0))

    def test_an_empty_row(self):
        self.amiss("clock c\n\nclock d", (1, 0))
        self.amiss("clock c\n", (1, 0))
        self.amiss("\nclock c", (0, 0))
        self.amiss("\n", (0, 0))
        self.amiss("clock c\nclock d\n\n", (2, 0))

    def test_other_signs_that_look_like_blanks(self):
        self.amiss("clock\tc", (0, 0))
        self.amiss("clock c\r\nclock d", (0, 1))
        self.amiss("clock c\rclock d", (0, 1))
        self.amiss("clock c\x0bclock d", (0, 1))
        self.amiss("clock\xa0c", (0, 0))


class Several(Reading):
    def test_the_first_of_two_in_one_row(self):
        self.amiss("in X 9 c", (0, 1))
        self.amiss("in x 9 C", (0, 2))
        self.amiss("wire w 0 what ever", (0, 2))
        self.amiss("box b 1 c 65536 one", (0, 4))
        self.amiss("wire w 1 and 1 2", (0, 4))

    def test_the_first_of_two_rows(self):
        self.amiss("clock c\nin x 9 c\nclock", (1, 2))
        self.amiss("clock c\nin x 8\nin x 9 c", (1, 3))

    def test_the_same_row_at_different_places(self):
        for many in range(5):
            rows = ["clock c"] * many + ["wire w 1 not 1"] + ["clock d"] * 3
            self.amiss("\n".join(rows), (many, 4))


class NoTexts(Reading):
    def test_things_that_are_no_texts(self):
        deep = ()
        for _ in range(30):
            deep = [deep]
        for thing in (None, True, False, 0, 1, -1, 10 ** 40 - 1, (), ("clock c",), [], ["clock c"], {},
                      {"clock": "c"}, (("clock", "c"),), b"clock c", b"", deep):
            refusal = refused(NoText, read_module, thing)
            self.assertEqual(repr(refusal.place), "(0, 0)")

    def test_a_tree_is_no_text(self):
        self.assertEqual(place_of(read_module("clock c")), (0, 0))

    def test_texts_of_other_signs(self):
        for text in ("\x00", "\xe4", "'", "(", "{", "~~~", "clock c; clock d"):
            place_of(text)
        self.amiss("clock c; clock d", (0, 1))

    def test_nothing_handed_in_is_changed(self):
        thing = ["clock c", {"a": ["b"]}]
        place_of(thing)
        self.assertEqual(thing, ["clock c", {"a": ["b"]}])

    def test_the_same_is_told_again(self):
        text = text_of("clock c", "wire w 1 not i.y")
        first = read_module(text)
        place_of("wire w 1 not 1")
        self.assertEqual(read_module(text), first)
        self.assertEqual(place_of("wire w 1 not 1"), (0, 4))

    def test_long_texts(self):
        self.amiss("not " * 2000, (0, 0))
        self.amiss("a" * 8000, (0, 0))
        self.amiss("wire w 1 " + "and " * 1990, (0, 14))
        self.amiss("\n" * 8000, (0, 0))
        self.amiss("clock c\n" * 1000, (1000, 0))
        self.amiss(" " * 8000, (0, 0))


class EachPlace(Reading):
    """By words exchanged, left out and put in: that a text goes on up to a place, and no further."""

    TEXT = text_of(
        "clock c",
        "in x 8 c",
        "out y 4 c join i.y cut 2 x",
        "wire w 1 pick bit 3 x not a num 1 0",
        "box b 3 c 7 sum w and b x",
        "cross z d 1 b",
        "use i m 2 c d below x w same num 2 3 w",
    )
    WORDS = ("", "a", "a.b", "one", "not", "num", "pick", "use", "clock", "0", "1", "9", "01", "65536", "A")

    def texts(self):
        rows = [row.split(" ") for row in self.TEXT.split("\n")]
        for r, row in enumerate(rows):
            for w in range(len(row) + 1):
                news = [row[:w] + row[w + 1:]] + [row[:w] + [word] + row[w:] for word in self.WORDS]
                news += [row[:w] + [word] + row[w + 1:] for word in self.WORDS]
                for new in news:
                    yield "\n".join(" ".join(words) for words in rows[:r] + [new] + rows[r + 1:])

    def goes_on(self, text):
        """Whether words behind a text make it one that is read."""
        many = len(text.split(" "))
        while True:
            try:
                read_module(text)
                return True
            except NoText as refusal:
                row, word = refusal.place
            rows = text.split("\n")
            if row != len(rows) - 1 or word != len(rows[-1].split(" ")):
                return False
            nexts = [text + " " + word for word in ("1", "a")]
            further = [new for new in nexts if not self.ends_at(new, (row, word))]
            if not further or len(text.split(" ")) > many + 40:
                return False
            text = further[0]

    def ends_at(self, text, place):
        try:
            read_module(text)
        except NoText as refusal:
            return refusal.place == place
        return False

    def test_each(self):
        seen = set()
        for text in self.texts():
            try:
                self.assertEqual(show_module(read_module(text)), text)
                continue
            except NoText as refusal:
                row, word = refusal.place
            rows = text.split("\n")
            words = rows[row].split(" ")
            ahead = "\n".join(rows[:row] + [" ".join(words[:word])])
            seen.add((row, word))
            if word:
                self.assertTrue(self.goes_on(ahead), (text, row, word))
            if word < len(words):
                # A text without signs has no words, so there the blank behind it is kept.
                upto = "\n".join(rows[:row] + [" ".join(words[:word + 1])]) or " "
                self.assertFalse(self.goes_on(upto), (text, row, word))
        self.assertGreater(len(seen), 60)


if __name__ == "__main__":
    unittest.main()
