"""Point 21: things of tuples, numbers, texts and None, written and read."""

import random
import unittest

from tests.asking import FLATS, OTHERS, nested, refused
from wiretongue.errors import NoText
from wiretongue.laying import laid
from wiretongue.nets import net_of
from wiretongue.things import read_thing, show_thing

SHOWN = (
    ((), "( )"),
    (((),), "( ( ) )"),
    (((), ()), "( ( ) ( ) )"),
    ((1, (2, "x"), None), "( 1 ( 2 'x ) none )"),
    ((((), 1), ((2,), 3)), "( ( ( ) 1 ) ( ( 2 ) 3 ) )"),
    (0, "0"),
    (7, "7"),
    (10, "10"),
    (900, "900"),
    (-1, "-1"),
    (-10, "-10"),
    (-12345678901234567890, "-12345678901234567890"),
    (10 ** 39, "1" + "0" * 39),
    (None, "none"),
    ((None,), "( none )"),
    ("x", "'x"),
    ("none", "'none"),
    ("(", "'("),
    (")", "')"),
    ("()", "'()"),
    ("'", "''"),
    ("''", "'''"),
    ("12", "'12"),
    ("0", "'0"),
    ("-0", "'-0"),
    ("-", "'-"),
    ("01", "'01"),
    ("x.one", "'x.one"),
    ("True", "'True"),
    ("\\n", "'\\n"),
    (("(", ")", "none", 0, "0"), "( '( ') 'none 0 '0 )"),
)

REFUSED = (
    # No words, and words without signs.
    ("", 0), (" ", 0), ("  ", 0), (" 1", 0), ("1 ", 1), ("( )  ", 2), ("(  )", 1), ("( 1  2 )", 2), ("( ) ", 2),
    ("(", 1), ("( ", 1), ("( (", 2), ("( 1", 2), ("( ( )", 3), ("( 1 2 'x none", 5), ("( ( ) ", 3),
    # What ends twice, or stands behind the thing.
    (")", 0), (") (", 0), ("( ) )", 2), ("( ( ) ) )", 4), ("1 )", 1), ("1 2", 1), ("none none", 1), ("'x 'y", 1),
    ("( ) ( )", 2), ("( ) 1", 2), ("1 x", 1), ("1 (", 1), ("( 1 ) (", 3), ("( ) x", 2), ("none )", 1), ("'x (", 1),
    # Words that are none.
    ("x", 0), ("None", 0), ("none.", 0), ("nonex", 0), ("non", 0), ("NONE", 0), ("True", 0), ("()", 0), ("((", 0),
    ("(1", 0), ("1)", 0), ("( 1) )", 1), ("( 1 x )", 2), ("( x", 1), ("( none) )", 1), ("[", 0), ("( , )", 1),
    ("\"x\"", 0), ("`x", 0),
    # Numbers that are none.
    ("-", 0), ("+", 0), ("-0", 0), ("+1", 0), ("+0", 0), ("00", 0), ("01", 0), ("-01", 0), ("-00", 0), ("--1", 0),
    ("1-", 0), ("1-1", 0), ("1.0", 0), ("1.", 0), ("1_0", 0), ("0x1", 0), ("1e3", 0), ("- 1", 0), ("1,0", 0),
    ("( -0 )", 1), ("( 1 - )", 2), ("( 1 01 )", 2), ("-x", 0), ("-none", 0), ("-'x", 0), ("-(", 0),
    # Texts that are none.
    ("'", 0), ("' ", 0), ("( ' )", 1), ("'x '", 1), ("( 'x ' )", 2), ("' x", 0),
    # A line end parts no words, and stands in none.
    ("\n", 0), ("1\n", 0), ("\n1", 0), ("( )\n", 1), ("(\n)", 0), ("'x\n", 0), ("'\n", 0), ("'a\nb", 0),
    ("( 'a\n )", 1), ("( 'a\n'b )", 1), ("none\n", 0), ("( 1\n2 )", 1), ("1 \n", 1), ("( \n )", 1), ("-\n1", 0),
)


class Shown(unittest.TestCase):
    def test_there_and_back(self):
        for thing, text in SHOWN:
            with self.subTest(text):
                self.assertEqual(show_thing(thing), text)
                self.assertEqual(repr(read_thing(text)), repr(thing))
                self.assertIs(show_thing(thing).__class__, str)
                self.assertEqual(show_thing(read_thing(text)), text)

    def test_all_signs(self):
        for number in range(33, 127):
            for thing in (chr(number), chr(number) * 3, "a" + chr(number), chr(number) + "0"):
                self.assertEqual(show_thing((thing,)), f"( '{thing} )")
                self.assertEqual(read_thing(f"( '{thing} )"), (thing,))
        signs = "".join(chr(number) for number in range(33, 127))
        self.assertEqual(read_thing(show_thing(signs)), signs)
        self.assertEqual(read_thing("'" + "~" * 8000), "~" * 8000)

    def test_numbers_of_many_figures(self):
        for figures in (1, 2, 39, 40, 41, 999, 3999, 4000):
            for word in ("1" + "0" * (figures - 1), "9" * figures, "7" * figures):
                self.assertEqual(show_thing(int(word)), word)
                self.assertEqual(read_thing(word), int(word))
                self.assertEqual(show_thing(-int(word)), "-" + word)
                self.assertEqual(read_thing("-" + word), -int(word))
                self.assertIs(read_thing(word).__class__, int)

    def test_numbers_of_too_many_figures(self):
        for figures in (4001, 4002, 5000, 7990):
            for word in ("1" + "0" * (figures - 1), "9" * figures):
                self.refuses(word, 0)
                self.refuses("-" + word, 0)
                self.refuses(f"( 1 {word} )", 2)
        self.refuses("0" * 4000, 0)
        self.refuses("-" + "0" * 4000, 0)

    def refuses(self, text, k):
        refusal = refused(NoText, read_thing, text)
        self.assertEqual(repr(refusal.place), repr((0, k)), repr(text)[:80])
        self.assertIsInstance(refusal, ValueError)

    def test_each_sort_that_is_none(self):
        for text, k in REFUSED:
            with self.subTest(text):
                self.refuses(text, k)

    def test_what_is_no_text(self):
        for thing in (*[other for other in OTHERS if not isinstance(other, str)], b"1", ("1",), ["1"], 1, {"1": 1}):
            self.refuses(thing, 0)

    def test_a_hundred_within_one_another(self):
        for deep in (1, 2, 30, 99, 100):
            told = nested(deep - 1)
            text = "( " * deep + ") " * (deep - 1) + ")"
            self.assertEqual(show_thing(told), text)
            self.assertEqual(read_thing(text), told)
            self.refuses(text + " )", 2 * deep)
            self.refuses(text[:-2], 2 * deep - 1)
            self.refuses("( " * deep + "x" + " )" * deep, deep)
        told = 5
        for k in range(100):
            told = (k, told, "x", None)
        self.assertEqual(read_thing(show_thing(told)), told)

    def test_each_text_cut_short_and_put_otherwise(self):
        words = "( 1 ( 2 'x ) none ( ) -3 )".split()
        for many in range(len(words)):
            self.refuses(" ".join(words[:many]), many)
            self.refuses(" ".join(words[:many] + ["%"] + words[many:]), many)
            self.refuses(" ".join(words[:many] + [""] + words[many:]), many)
        self.refuses(" ".join(words + ["1"]), len(words))

    def test_any_things(self):
        chance = random.Random(21)

        def made(deep):
            sort = chance.randrange(5 if deep else 4)
            if sort == 0:
                return None
            if sort == 1:
                return chance.choice((1, -1)) * chance.randrange(10 ** chance.randrange(45))
            if sort == 2:
                return "".join(chr(chance.randrange(33, 127)) for _ in range(chance.randrange(1, 9)))
            return tuple(made(deep - 1) for _ in range(chance.randrange(4))) if deep else ()

        for _ in range(500):
            thing = made(6)
            text = show_thing(thing)
            self.assertEqual(repr(read_thing(text)), repr(thing))
            self.assertEqual(show_thing(read_thing(text)), text)

    def test_any_words(self):
        chance = random.Random(22)
        words = ("(", ")", "(", ")", "1", "-2", "none", "'x", "'(", "", "01", "x")
        let = 0
        for _ in range(4000):
            said = [chance.choice(words) for _ in range(chance.randrange(1, 9))]
            text = " ".join(said)
            deep, place = 0, None
            for k, word in enumerate(said):
                behind = k > 0 and deep == 0
                if behind or word in ("", "01", "x") or (word == ")" and deep == 0):
                    place = k
                    break
                deep += {"(": 1, ")": -1}.get(word, 0)
            if place is None and deep:
                place = len(said)
            if place is not None:
                self.refuses(text, place)
            else:
                let += 1
                self.assertEqual(show_thing(read_thing(text)), text)
        self.assertGreater(let, 100)

    def test_papers(self):
        for name, flat in FLATS.items():
            net = net_of(flat)
            paper = (net, laid(net, (9, 9)))
            with self.subTest(name):
                self.assertEqual(repr(read_thing(show_thing(paper))), repr(paper))
                self.assertEqual(read_thing(show_thing(flat)), flat)

    def test_soon(self):
        thing = tuple((k, ("x", None)) for k in range(40_000))
        text = show_thing(thing)
        self.assertEqual(read_thing(text), thing)
        self.refuses(text + " x", text.count(" ") + 1)

    def test_by_names(self):
        self.assertEqual(show_thing(thing=(1,)), "( 1 )")
        self.assertEqual(read_thing(text="( 1 )"), (1,))


if __name__ == "__main__":
    unittest.main()
