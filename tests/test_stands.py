"""Points 18 and 19: a Stand, its edits, its makes, and what is told of the last paper."""

import itertools
import random
import unittest

from tests.asking import OTHERS, design_of, flat_rows, is_plain, looked, mixed_beats, refused, text_of
from wiretongue.beats import told
from wiretongue.errors import Fault, Nested, NoName, NoPaper, NoPath, NoRoom, NoText, Ring
from wiretongue.faces import face_of
from wiretongue.flat import flat_of
from wiretongue.kinds import DELAYS, TABLE, TOP, TURNS
from wiretongue.laychecks import joined_holds
from wiretongue.nets import net_of
from wiretongue.reading import read_module
from wiretongue.slowchecks import slowest_holds
from wiretongue.slowest import slowest
from wiretongue.stands import Stand
from wiretongue.turns import turned
from wiretongue.waves import Waves

HALF = text_of("clock k", "in a 1 k", "in b 1 k", "out s 2 k sum a b")
# The face of HALF, by other rows.
HALF_ALIKE = text_of("in a 1 k", "wire n 2 join xor a b and a b", "clock k", "in b 1 k", "out s 2 k n")
WIDER = text_of("clock k", "in a 1 k", "in b 1 k", "out s 3 k join sum a b a")
TOP_TEXT = text_of("clock c", "in x 1 c", "box b 1 c 0 x", "use h half 1 c x b", "out y 2 c h.s")
DESIGN = (("half", HALF), ("top", TOP_TEXT))
LONE = text_of("clock c", "in x 1 c", "out y 1 c not x")
READ, NAME = "what", "wire w 1 x"
WIDTH = "wire w 1 num 2 0"
CLOCK = text_of("clock c", "wire w 1 num 1 0", "cross z c 0 w")
RINGED = text_of("wire a 1 b", "wire b 1 a")
BEATS = ((("c",), (1,)), (("c",), (1,)), ((), (0,)), (("c",), (0,)))


class Deeds(unittest.TestCase):
    """put, out, and what a Stand is without any paper."""

    def test_nothing(self):
        stand = Stand()
        self.assertEqual(stand.design(), ())
        self.assertEqual(repr(stand.options()), repr(("top", ("fold", "share", "drop"), (20, 20), (1, 2, 3))))
        self.assertEqual((len(stand), str(stand), stand.made()), (0, "", ()))
        self.assertIs(stand.stale(), True)
        self.assertTrue(stand == Stand(()))

    def test_options(self):
        self.assertEqual(Stand(DESIGN, top="half").options(), ("half", TURNS, TABLE, DELAYS))
        self.assertEqual(Stand(DESIGN, turns=()).options(), (TOP, (), TABLE, DELAYS))
        self.assertEqual(Stand(DESIGN, table=(3, 4)).options(), (TOP, TURNS, (3, 4), DELAYS))
        self.assertEqual(Stand(DESIGN, delays=(0, 0, 9)).options(), (TOP, TURNS, TABLE, (0, 0, 9)))
        told = Stand(delays=(4, 5, 6), table=(1, 2), turns=("drop", "drop"), top="b", design=DESIGN)
        self.assertEqual(told.options(), ("b", ("drop", "drop"), (1, 2), (4, 5, 6)))
        self.assertEqual(told.design(), DESIGN)
        with self.assertRaises(TypeError):
            Stand(DESIGN, "top")

    def test_put(self):
        stand = Stand()
        self.assertIsNone(stand.put("top", LONE))
        self.assertEqual(stand.design(), (("top", LONE),))
        self.assertIsNone(stand.put("half", HALF))
        self.assertEqual(stand.design(), (("half", HALF), ("top", LONE)))
        stand.put("top", TOP_TEXT)
        self.assertEqual(stand.design(), DESIGN)
        stand.put("half", HALF)
        self.assertEqual(stand.design(), DESIGN)
        stand.put(text="", name="a")
        self.assertEqual(stand.design(), (("a", ""), *DESIGN))
        self.assertTrue(is_plain(stand.design()))

    def test_put_of_what_cannot_be_read(self):
        stand = Stand(DESIGN)
        for text in (READ, " ", "\n", "clock c\n", "clock clock", "x" * 8000):
            stand.put("half", text)
            self.assertEqual(stand.design(), (("half", text), ("top", TOP_TEXT)))

    def test_names_rise(self):
        stand = Stand()
        names = ["top", "ab", "a", "b", "aa", "zz", "z"]
        for name in names:
            stand.put(name, name)
        self.assertEqual(stand.design(), tuple((name, name) for name in sorted(names)))

    def test_put_refused(self):
        stand = Stand(DESIGN)
        stand.make()
        for thing in (*OTHERS, "clock", "in", "one", "toolong", "Top", "a.b", "a1", ("top",), ["top"]):
            if thing in ("x", "gone"):
                continue
            for text in ("", LONE, None, 3, thing):
                refusal = refused(NoName, stand.put, thing, text)
                self.assertIs(refusal.name, thing)
                self.assertIsInstance(refusal, KeyError)
        for thing in [*[other for other in OTHERS if not isinstance(other, str)], b"", ("",), [""], 0]:
            for name in ("top", "half", "new"):
                self.assertEqual(repr(refused(NoText, stand.put, name, thing).place), "(0, 0)")
        self.assertEqual(stand.design(), DESIGN)
        self.assertIs(stand.stale(), False)
        self.assertEqual(stand.made(), ("half", "top"))
        stand.make()
        self.assertEqual(stand.made(), ())

    def test_out(self):
        stand = Stand(DESIGN)
        self.assertIsNone(stand.out("half"))
        self.assertEqual(stand.design(), (("top", TOP_TEXT),))
        stand.out(name="top")
        self.assertEqual(stand.design(), ())
        self.assertEqual(refused(NoName, stand.out, "top").name, "top")

    def test_out_refused(self):
        stand = Stand(DESIGN)
        stand.make()
        for thing in (*OTHERS, "hal", "halff", "clock", ["half"], ("half",), {"half": 1}, HALF):
            refusal = refused(NoName, stand.out, thing)
            self.assertIs(refusal.name, thing)
        self.assertEqual(stand.design(), DESIGN)
        self.assertIs(stand.stale(), False)
        self.assertIs(refused(NoName, Stand().out, "top").name.__class__, str)

    def test_len_and_text(self):
        stand = Stand(DESIGN)
        self.assertEqual((len(stand), str(stand)), (2, f"module half\n{HALF}\nmodule top\n{TOP_TEXT}"))
        stand.put("a", "")
        self.assertEqual((len(stand), str(stand)), (3, f"module a\nmodule half\n{HALF}\nmodule top\n{TOP_TEXT}"))
        stand.out("half")
        stand.put("top", "")
        self.assertEqual((len(stand), str(stand)), (2, "module a\nmodule top"))
        stand.put("top", "\n")
        self.assertEqual(str(stand), "module a\nmodule top\n\n")
        stand.put("a", "x\n")
        self.assertEqual(str(stand), "module a\nx\n\nmodule top\n\n")
        stand.out("a")
        stand.out("top")
        self.assertEqual((len(stand), str(stand)), (0, ""))

    def test_equality(self):
        stand = Stand(DESIGN)
        other = Stand()
        other.put("top", TOP_TEXT)
        other.put("half", HALF)
        for _ in range(2):
            self.assertTrue(stand == other and other == stand)
            self.assertFalse(stand != other or other != stand)
            stand.make()
        unlike = [Stand(DESIGN[1:]), Stand(DESIGN, top="half"), Stand(DESIGN, turns=TURNS[:2]), Stand(),
                  Stand(DESIGN, table=(20, 21)), Stand(DESIGN, delays=(1, 2, 4)),
                  Stand((("half", HALF_ALIKE), DESIGN[1])), Waves((), ((), (), ()), ())]
        for thing in [*unlike, *OTHERS, DESIGN, str(stand), Stand]:
            self.assertFalse(stand == thing)
            self.assertFalse(thing == stand)
            self.assertTrue(stand != thing and thing != stand)
        self.assertIs(stand.__eq__(3), False)
        stand.put("half", HALF_ALIKE)
        self.assertTrue(stand == unlike[6])
        self.assertFalse(stand == other)
        stand.put("half", HALF)
        self.assertTrue(stand == other)

    def test_stale(self):
        stand = Stand(DESIGN)
        self.assertIs(stand.stale(), True)
        stand.make()
        self.assertIs(stand.stale(), False)
        stand.put("half", HALF)
        self.assertIs(stand.stale(), False)
        stand.put("half", HALF_ALIKE)
        self.assertIs(stand.stale(), True)
        stand.put("half", HALF)
        self.assertIs(stand.stale(), False)
        stand.put("a", "")
        self.assertIs(stand.stale(), True)
        stand.out("a")
        self.assertIs(stand.stale(), False)
        stand.out("half")
        self.assertIs(stand.stale(), True)
        refused(Fault, stand.make)
        self.assertIs(stand.stale(), True)
        stand.put("half", HALF)
        self.assertIs(stand.stale(), False)
        stand.put("half", HALF_ALIKE)
        stand.make()
        self.assertIs(stand.stale(), False)
        stand.put("half", HALF)
        self.assertIs(stand.stale(), True)


class Make(unittest.TestCase):
    """What make tells, and how it is refused."""

    def test_what_comes(self):
        flat, _ = flat_of(DESIGN, "top")
        stand = Stand(DESIGN)
        paper = stand.make()
        self.assertTrue(is_plain(paper))
        self.assertIs(joined_holds(flat, TABLE, paper), True)
        self.assertEqual(stand.paper(), paper)

    def test_each_flat_by_each_turns(self):
        for name, text in (("half", HALF), ("top", LONE), ("none", ""), ("alike", HALF_ALIKE)):
            self.by_each_turns((("top", text),), name)
        self.by_each_turns(DESIGN, "both")

    def by_each_turns(self, design, name):
        flat = flat_of(design, "top")[0]
        for many in range(4):
            for turns in itertools.product(TURNS, repeat=many):
                net = net_of(flat)
                for turn in turns:
                    net = turned(net, turn)
                with self.subTest(name, turns=turns):
                    paper = Stand(design, turns=turns).make()
                    self.assertEqual(paper[0], net)
                    self.assertIs(joined_holds(flat, TABLE, paper), True)

    def test_turns_one_behind_the_other(self):
        text = text_of("clock c", "in x 1 c", "box n 2 c 0 cut 2 sum n x", "wire w 1 and x x", "wire v 2 sum x w",
                       "out y 1 c w")
        self.by_each_turns((("top", text),), "boxes that no out hangs on")
        dropped = Stand((("top", text),), turns=("drop",)).make()[0]
        self.assertLess(len(dropped[0]), len(Stand((("top", text),), turns=()).make()[0][0]))
        self.assertIn(("n", 0, ("gone",)), dropped[1])

    def test_another_top_table(self):
        stand = Stand(DESIGN, top="half", table=(2, 2))
        self.assertIs(joined_holds(flat_of(DESIGN, "half")[0], (2, 2), stand.make()), True)
        self.assertEqual(stand.flat(), flat_of(DESIGN, "half")[0])

    def refuses(self, error, *fields, **texts):
        stand = Stand(design_of(**texts))
        refusal = refused(error, stand.make)
        self.assertEqual(repr(tuple(vars(refusal).values())), repr(fields))
        refused(NoPaper, stand.paper)
        self.assertIs(stand.stale(), True)

    def test_no_top(self):
        self.refuses(NoName, "top")
        self.refuses(NoName, "top", half=HALF)
        self.refuses(NoName, "top", a=READ)
        self.assertEqual(refused(NoName, Stand(DESIGN, top="a").make).name, "a")

    def test_faults(self):
        for stage, text in (("read", READ), ("name", NAME), ("width", WIDTH), ("clock", CLOCK)):
            for texts in ({"top": text}, {"a": text, "top": LONE}, {"a": LONE, "top": text}, {"top": LONE, "z": text}):
                design = design_of(**texts)
                told_by_look = looked(design)
                self.assertEqual(told_by_look[0], stage)
                self.refuses(Fault, *told_by_look, **texts)

    def test_nested(self):
        self.refuses(Nested, ("top",), top="use i top 0")
        self.refuses(Nested, ("a",), a="use i a 0", top=LONE)

    def test_nested_is_ahead_of_width_and_clock(self):
        for text in (WIDTH, CLOCK):
            self.refuses(Nested, ("top",), a=text, top="use i top 0")
            ring = "use i top 1 c\n" + text if text == CLOCK else "use i top 0\n" + text
            self.refuses(Nested, ("top",), top=ring)
        self.refuses(Fault, "name", "a", (0, 3), a=NAME, top="use i top 0")
        self.refuses(Fault, "read", "a", (0, 0), a=READ, top="use i top 0")
        self.refuses(Fault, "width", "a", (0, 3), a=WIDTH, top=CLOCK)

    def test_ring(self):
        self.assertIn(refused(Ring, Stand((("top", RINGED),)).make).ring, (("a", "b"), ("b", "a")))
        self.refuses(Ring, ("i.w",), a="wire w 1 w", top="use i a 0")
        # In a module that isn't in the flat no ring is looked for.
        Stand(design_of(a=RINGED, top=LONE)).make()
        self.refuses(Fault, "width", "a", (0, 3), a=WIDTH, top=RINGED)

    def test_no_room(self):
        for turns in ((), TURNS):
            many = len(Stand(DESIGN, turns=turns).make()[0][0])
            self.assertIs(refused(NoRoom, Stand(DESIGN, turns=turns, table=(1, many - 1)).make).many, many)
            Stand(DESIGN, turns=turns, table=(1, many)).make()
            Stand(DESIGN, turns=turns, table=(many, 1)).make()
        self.refuses(Ring, ("w",), top="wire w 1 w\n" + "\n".join(f"box {n} 8 c 0 {n}" for n in "abd") + "\nclock c")

    def test_no_room_hangs_on_the_turns(self):
        text = text_of("clock c", "box a 8 c 0 not a", "out y 1 c num 1 0")
        self.assertEqual(refused(NoRoom, Stand((("top", text),), turns=(), table=(3, 5)).make).many, 16)
        self.assertEqual(Stand((("top", text),), table=(1, 1)).make()[0][0], ())

    def test_refused_the_one_ahead_is_kept(self):
        stand = Stand(DESIGN, table=(2, 2))
        paper = stand.make()
        kept = self.all_told(stand)
        for name, text, error in (("half", READ, Fault), ("top", NAME, Fault), ("a", WIDTH, Fault), ("a", CLOCK, Fault),
                                  ("half", "use i half 0", Fault), ("a", "use i a 0", Nested), ("top", RINGED, Ring),
                                  ("top", "clock c\nbox a 8 c 0 not a\nout y 8 c a", NoRoom)):
            stand.put(name, text)
            self.assertEqual(self.all_told(stand), kept)
            self.assertIs(stand.stale(), True)
            refused(error, stand.make)
            self.assertEqual(self.all_told(stand), kept)
            stand.put("top", TOP_TEXT)
            stand.put("half", HALF)
            if name == "a":
                stand.out("a")
            self.assertEqual(self.all_told(stand), kept)
            self.assertIs(stand.stale(), False)
        stand.out("top")
        refused(NoName, stand.make)
        self.assertEqual(self.all_told(stand), kept)
        stand.put("top", LONE)
        self.assertNotEqual(stand.make(), paper)
        self.assertNotEqual(self.all_told(stand), kept)

    def all_told(self, stand):
        return (stand.paper(), stand.flat(), stand.whence("y"), stand.run(BEATS), stand.slowest("c"), stand.led("c"),
                stand.waves(BEATS).wave("y"), stand.options())

    def test_behind_a_mend_a_paper_comes_again(self):
        stand = Stand(DESIGN)
        paper = stand.make()
        for text in (READ, NAME, WIDTH, CLOCK, RINGED):
            stand.put("top", text)
            with self.assertRaises((Fault, Ring)):
                stand.make()
            stand.put("top", TOP_TEXT)
            self.assertEqual(stand.make(), paper)
            self.assertIs(stand.stale(), False)

    def test_by_turns_with_another_stand(self):
        one, other = Stand(DESIGN), Stand(DESIGN)
        one.make()
        refused(NoPaper, other.paper)
        self.assertEqual(other.made(), ())
        other.put("top", LONE)
        self.assertEqual(one.design(), DESIGN)
        self.assertIs(one.stale(), False)
        other.make()
        self.assertEqual(one.flat(), flat_of(DESIGN, "top")[0])
        self.assertEqual(other.made(), ("half", "top"))
        one.make()
        self.assertEqual(one.made(), ())
        other.out("half")
        self.assertEqual(len(one), 2)


class Made(unittest.TestCase):
    """At which modules the last make looked."""

    def makes(self, stand, *names):
        """That the next make, refused or not, looks at just these."""
        try:
            stand.make()
            error = None
        except (NoName, Fault, Nested, Ring, NoRoom) as refusal:
            error = refusal.__class__
        self.assertEqual(repr(stand.made()), repr(names))
        return error

    def test_none_at_first_then_all(self):
        stand = Stand(DESIGN)
        self.assertEqual(stand.made(), ())
        self.makes(stand, "half", "top")
        self.assertEqual(stand.made(), ("half", "top"))
        self.makes(stand)
        self.makes(stand)

    def test_modules_that_the_top_does_not_use(self):
        stand = Stand(design_of(a="", b=HALF, top=LONE, z=READ))
        self.assertIs(self.makes(stand, "a", "b", "top", "z"), Fault)
        self.makes(stand, "z")

    def test_a_text_that_is_changed(self):
        stand = Stand(DESIGN)
        stand.make()
        stand.put("top", TOP_TEXT + "\nwire w 1 x")
        self.makes(stand, "top")
        self.makes(stand)
        stand.put("half", HALF)
        self.makes(stand)
        stand.put("new", LONE)
        self.makes(stand, "new")
        self.makes(stand)

    def test_a_change_that_leaves_the_face(self):
        stand = Stand(DESIGN)
        stand.make()
        self.assertEqual(face_of(read_module(HALF)), face_of(read_module(HALF_ALIKE)))
        stand.put("half", HALF_ALIKE)
        self.assertIsNone(self.makes(stand, "half"))
        self.assertEqual(stand.flat(), flat_of((("half", HALF_ALIKE), DESIGN[1]), "top")[0])
        self.makes(stand)

    def test_a_change_of_the_face(self):
        for text in (WIDER, HALF.replace("clock k", "clock k\nclock l"), HALF.replace("in b 1 k", "in z 1 k"),
                     HALF + "\nout t 1 k a", HALF.replace("k", "m"), HALF.replace("in b 1 k", "in b 2 k")):
            stand = Stand(DESIGN)
            stand.make()
            stand.put("half", text)
            self.makes(stand, "half", "top")
            stand.put("half", HALF)
            self.makes(stand, "half", "top")
            self.makes(stand)

    def test_a_face_beyond_the_module_that_is_used(self):
        texts = {"a": "clock k\nout y 1 k num 1 1", "b": "clock k\nuse i a 1 k\nout y 1 k i.y",
                 "d": "clock k\nuse i b 1 k\nout y 1 k i.y", "top": "clock k\nuse i d 1 k\nout y 1 k i.y"}
        stand = Stand(design_of(**texts))
        self.makes(stand, "a", "b", "d", "top")
        stand.put("a", texts["a"] + "\nin x 1 k")
        self.assertIs(self.makes(stand, "a", "b"), Fault)
        stand.put("b", texts["b"].replace("use i a 1 k", "use i a 1 k num 1 1"))
        self.assertIsNone(self.makes(stand, "b"))
        stand.put("a", texts["a"] + "\nin x 2 k")
        self.assertIs(self.makes(stand, "a", "b"), Fault)
        self.makes(stand, "b")

    def test_those_amiss_at_each_make(self):
        for text in (READ, NAME, WIDTH, CLOCK, "use i nobody 0"):
            stand = Stand(design_of(a=text, b=LONE, top=LONE))
            self.assertIs(self.makes(stand, "a", "b", "top"), Fault)
            for _ in range(2):
                self.assertIs(self.makes(stand, "a"), Fault)
            stand.put("a", LONE)
            self.assertIsNone(self.makes(stand, "a"))
            self.makes(stand)

    def test_whatever_else_is_amiss(self):
        # Though a stage ahead refuses the make, each module is looked at by all stages.
        stand = Stand(design_of(a=READ, b=NAME, d=WIDTH, top=CLOCK))
        self.makes(stand, "a", "b", "d", "top")
        self.makes(stand, "a", "b", "d", "top")
        stand.put("a", "")
        self.makes(stand, "a", "b", "d", "top")
        stand.put("b", "")
        self.makes(stand, "b", "d", "top")
        stand.put("d", LONE)
        self.makes(stand, "d", "top")
        stand.put("top", LONE)
        self.assertIsNone(self.makes(stand, "top"))
        self.makes(stand)

    def test_amiss_at_two_stages(self):
        stand = Stand((("top", NAME + "\n" + WIDTH.replace("w", "v")),))
        self.makes(stand, "top")
        stand.put("top", WIDTH)
        self.makes(stand, "top")
        self.makes(stand, "top")

    def test_a_change_taken_back_ahead_of_the_next_make(self):
        stand = Stand(DESIGN)
        stand.make()
        stand.put("half", READ)
        stand.put("half", WIDER)
        stand.out("top")
        stand.put("half", HALF)
        stand.put("top", TOP_TEXT)
        self.assertIsNone(self.makes(stand))

    def test_a_change_that_a_make_saw(self):
        for text in (READ, NAME, WIDTH, HALF_ALIKE, WIDER):
            stand = Stand(DESIGN)
            stand.make()
            stand.put("half", text)
            self.makes(stand, *(("half",) if text == HALF_ALIKE else ("half", "top")))
            stand.put("half", HALF)
            self.makes(stand, *(("half",) if text == HALF_ALIKE else ("half", "top")))
            self.makes(stand)

    def test_a_module_that_is_out_at_a_make(self):
        stand = Stand(DESIGN)
        stand.make()
        stand.out("half")
        self.assertIs(self.makes(stand, "top"), Fault)
        stand.put("half", HALF)
        self.assertIsNone(self.makes(stand, "half", "top"))
        stand.put("a", LONE)
        self.makes(stand, "a")
        stand.out("a")
        self.makes(stand)
        stand.put("a", LONE)
        self.makes(stand, "a")
        stand.out("a")
        stand.put("a", LONE)
        self.makes(stand)

    def test_a_used_module_that_cannot_be_read(self):
        stand = Stand((("half", READ), DESIGN[1]))
        self.assertIs(self.makes(stand, "half", "top"), Fault)
        # Nothing is amiss in the top itself.
        self.assertIs(self.makes(stand, "half"), Fault)
        stand.put("half", "what else")
        self.makes(stand, "half")
        stand.put("half", HALF)
        self.assertIsNone(self.makes(stand, "half", "top"))
        stand.put("half", READ)
        self.makes(stand, "half", "top")
        self.makes(stand, "half")

    def test_what_cannot_be_read_is_as_what_is_not_there(self):
        stand = Stand((("half", READ), DESIGN[1]))
        self.makes(stand, "half", "top")
        stand.out("half")
        # The look at the top is kept, and the make is refused all the same.
        for _ in range(2):
            self.makes(stand)
            fault = refused(Fault, stand.make)
            self.assertEqual((fault.stage, fault.module, fault.place), ("name", "top", (3, 2)))
        stand.put("half", READ)
        self.makes(stand, "half")
        stand.put("half", HALF)
        self.assertIsNone(self.makes(stand, "half", "top"))

    def test_what_is_not_there_at_first(self):
        stand = Stand(DESIGN[1:])
        self.makes(stand, "top")
        self.makes(stand, "top")
        stand.put("half", READ)
        # The look at the top found that the half isn't there: none was kept.
        self.makes(stand, "half", "top")
        self.makes(stand, "half")

    def test_the_least_place_among_what_is_not_there(self):
        top = text_of("use i a 0", "use j b 0", "use k d 0")
        stand = Stand(design_of(a="", b=READ, d=READ, top=top))
        self.makes(stand, "a", "b", "d", "top")
        stand.out("d")
        self.makes(stand, "b")
        stand.put("b", "")
        fault = refused(Fault, stand.make)
        self.assertEqual((fault.stage, fault.module, fault.place), ("name", "top", (2, 2)))
        self.assertEqual(stand.made(), ("b", "top"))

    def test_the_top_is_not_there(self):
        stand = Stand(DESIGN)
        stand.make()
        stand.out("top")
        self.assertIs(self.makes(stand), NoName)
        stand.put("half", READ)
        stand.put("new", LONE)
        self.assertIs(self.makes(stand), NoName)
        stand.out("half")
        self.assertIs(self.makes(stand), NoName)
        stand.put("top", TOP_TEXT)
        stand.put("half", HALF)
        # No look is gone, the top's own neither.
        self.assertIsNone(self.makes(stand, "new"))
        self.makes(stand)

    def test_the_top_is_not_there_at_first(self):
        stand = Stand(DESIGN[:1])
        self.assertIs(self.makes(stand), NoName)
        stand.put("top", TOP_TEXT)
        self.assertIsNone(self.makes(stand, "half", "top"))

    def test_refused_by_ring_and_by_no_room(self):
        for texts, error in (({"top": RINGED, "a": LONE}, Ring), ({"a": "wire w 1 w", "top": "use i a 0"}, Ring)):
            stand = Stand(design_of(**texts))
            self.assertIs(self.makes(stand, "a", "top"), error)
            self.assertIs(self.makes(stand), error)
            stand.put("top", LONE)
            self.assertIsNone(self.makes(stand, "top"))
        stand = Stand(DESIGN, table=(1, 2))
        self.assertIs(self.makes(stand, "half", "top"), NoRoom)
        self.assertIs(self.makes(stand), NoRoom)

    def test_refused_by_nested(self):
        stand = Stand(design_of(a="use i top 0", b=WIDTH, top="use i a 0"))
        self.assertIs(self.makes(stand, "a", "b", "top"), Nested)
        self.assertIs(self.makes(stand, "b"), Nested)
        stand.put("a", "")
        self.assertIs(self.makes(stand, "a", "b"), Fault)
        stand.put("a", "use i a 0")
        self.assertIs(self.makes(stand, "a", "b"), Nested)
        stand.put("b", "")
        self.assertIs(self.makes(stand, "b"), Nested)
        self.assertIs(self.makes(stand), Nested)

    def test_a_module_with_its_own_face(self):
        stand = Stand((("top", "use i top 0"),))
        self.assertIs(self.makes(stand, "top"), Nested)
        self.assertIs(self.makes(stand), Nested)
        stand.put("top", "use i top 1 c\nclock c")
        self.makes(stand, "top")

    def test_the_same_module_used_twice_and_two_used(self):
        top = text_of("clock c", "in x 1 c", "use g half 1 c x x", "use h half 1 c x x", "use i lone 1 c x")
        stand = Stand(design_of(half=HALF, lone=LONE, top=top))
        self.makes(stand, "half", "lone", "top")
        for name, text in (("half", WIDER), ("lone", LONE.replace("out y", "out z"))):
            stand.put(name, text)
            self.makes(stand, name, "top")
        self.makes(stand)

    def test_no_deed_but_make_looks(self):
        stand = Stand(DESIGN)
        stand.make()
        stand.put("half", READ)
        stand.put("a", READ)
        stand.out("a")
        for ask in (stand.design, stand.options, stand.stale, stand.paper, stand.flat, stand.made):
            ask()
        self.assertEqual(stand.made(), ("half", "top"))


class Told(unittest.TestCase):
    """What is told of the last paper."""

    def tells_all(self, stand, design, beats=BEATS):
        """That all is told as of a design, by the stand's options."""
        top, _, table, delays = stand.options()
        flat, whence = flat_of(design, top)
        net, laying = paper = stand.paper()
        self.assertIs(joined_holds(flat, table, paper), True)
        self.assertEqual(stand.flat(), flat)
        for row, came in zip(flat, whence):
            self.assertEqual(repr(stand.whence(row[1])), repr(came))
        self.assertEqual(stand.run(beats), told(flat, beats))
        self.assertTrue(stand.waves(beats) == Waves(flat, net, beats))
        for clock in ("c", "d", "e"):
            slow = stand.slowest(clock)
            self.assertEqual(slow, slowest(net, laying, clock, delays=delays))
            self.assertIs(slowest_holds(net, laying, clock, slow, delays=delays), True)
            names = tuple(tuple(trace[:2] for trace in net[1] if trace[2] == ("gate", g)) for g in slow[1])
            self.assertEqual(repr(stand.led(clock)), repr(names))
        self.assertTrue(is_plain((stand.paper(), stand.flat(), stand.run(beats), stand.slowest("c"), stand.led("c"))))

    def test_all(self):
        for options in ({}, {"turns": ()}, {"turns": ("drop",)}, {"delays": (0, 9, 0)}, {"table": (5, 5)},
                        {"top": "half", "delays": (1000, 0, 0)}):
            stand = Stand(DESIGN, **options)
            stand.make()
            ins = 2 if options.get("top") else 1
            self.tells_all(stand, DESIGN, tuple((clocks, worths * ins) for clocks, worths in BEATS))

    def test_while_the_design_is_another_one(self):
        stand = Stand(DESIGN)
        stand.make()
        other = (("half", WIDER), ("top", LONE))
        for name, text in other:
            stand.put(name, text)
            self.tells_all(stand, DESIGN)
        self.assertEqual(stand.design(), other)
        stand.out("top")
        stand.out("half")
        self.tells_all(stand, DESIGN)
        self.assertEqual(stand.design(), ())

    def test_led(self):
        stand = Stand(DESIGN)
        stand.make()
        self.assertEqual(stand.slowest("c")[1], (0, 1))
        self.assertEqual(repr(stand.led("c")), repr(((("h.a", 0), ("x", 0)), (("b", 0), ("h.b", 0)))))
        self.assertEqual(repr(stand.led("zz")), "()")

    def test_whence_of_a_cross_and_an_in(self):
        used = text_of("clock k", "clock m", "in a 1 k", "cross q m 0 a", "out y 1 m q")
        top = text_of("clock c", "clock d", "in x 1 c", "use i used 2 c d x", "out y 1 d i.y")
        stand = Stand(design_of(used=used, top=top))
        stand.make()
        told_of = {"x": ("top", 2), "i.a": ("used", 2), "i.q.one": ("used", 3), "i.q": ("used", 3), "i.y": ("used", 4),
                   "y": ("top", 4)}
        for path, came in told_of.items():
            self.assertEqual(repr(stand.whence(path)), repr(came))
        self.assertEqual(stand.whence(path="x"), ("top", 2))
        self.tells_all(stand, design_of(used=used, top=top))

    def test_no_path(self):
        stand = Stand(DESIGN)
        stand.make()
        for thing in (*OTHERS, "h", "h.h", "c", "half.a", "h.s.one", ["x"], ("x",), 0):
            if thing != "x":
                self.assertIs(refused(NoPath, stand.whence, thing).path, thing)
        waves = stand.waves(BEATS)
        self.assertEqual(refused(NoPath, waves.wave, "c").path, "c")

    def test_no_paper(self):
        stand = Stand()
        for design in ((), DESIGN, (("top", READ),), (("top", RINGED),)):
            for name, text in design:
                stand.put(name, text)
            if design and design[0][1] != HALF:
                with self.assertRaises((Fault, Ring)):
                    stand.make()
            for ask, handed in ((stand.paper, ()), (stand.flat, ()), (stand.whence, ("x",)), (stand.whence, ([],)),
                                (stand.whence, ("nobody",)), (stand.run, (BEATS,)), (stand.waves, (BEATS,)),
                                (stand.slowest, ("c",)), (stand.led, ("c",))):
                refused(NoPaper, ask, *handed)
            self.assertIs(stand.stale(), True)

    def test_by_names(self):
        stand = Stand(DESIGN)
        stand.make()
        self.assertEqual(stand.run(beats=BEATS), stand.run(BEATS))
        self.assertTrue(stand.waves(beats=BEATS) == stand.waves(BEATS))
        self.assertEqual(stand.slowest(clock="c"), stand.slowest("c"))
        self.assertEqual(stand.led(clock="c"), stand.led("c"))

    def test_asked_again(self):
        stand = Stand(DESIGN)
        stand.make()
        first = [stand.paper(), stand.flat(), stand.run(BEATS), stand.slowest("c"), stand.led("c"), stand.made()]
        again = [stand.paper(), stand.flat(), stand.run(BEATS), stand.slowest("c"), stand.led("c"), stand.made()]
        self.assertEqual(first, again)
        self.assertIsNot(stand.waves(BEATS), stand.waves(BEATS))


class Fates(unittest.TestCase):
    """Two hundred deeds, held against what is told without any Stand."""

    PARTS = (
        "clock k\nin a 1 k\nout y 1 k not a",
        "clock k\nin a 1 k\nwire w 1 a\nout y 1 k w",
        "clock k\nin a 2 k\nout y 1 k bit 0 a",
        "clock k\nout y 1 k num 1 1",
        "clock k\nclock m\nin a 1 m\nout y 1 k num 1 0",
        "clock k\nin a 1 k\nwire w 1 num 2 1\nout y 1 k a",
        "clock k\nin a 1 k\nwire w 1 z\nout y 1 k a",
        "clock k\nclock m\nin a 1 k\nout y 1 m a",
        "clock k\nin a 1 k\nwire w 1 w\nout y 1 k w",
        "what", "", "clock k\nin a 1 k\nuse i {} 1 k a\nout y 1 k i.y",
        "clock k\nin a 1 k\nuse i {} 1 k not a\nuse j {} 1 k a\nout y 1 k and i.y j.y",
    )
    NAMES = ("a", "b", "d", "top")

    def alone(self, texts, name):
        """Whether nothing is amiss in a module by itself: beside right modules of the faces of the others."""
        design = [(name, texts[name])]
        for other in self.NAMES:
            if other in texts and other != name:
                design.append((other, self.stub(texts[other])))
        told = looked(tuple(sorted(design)))
        return told is None or told[0] == "nested" or told[1] != name

    def stub(self, text):
        """A right module of the same face, where it can be told."""
        try:
            clocks, ins, outs = face_of(read_module(text))
        except NoText:
            return text
        return text_of(*[f"clock {clock}" for clock in clocks],
                       *[f"in {name} {width} {clocks[k]}" for name, width, k in ins],
                       *[f"out {name} {width} {clocks[k]} num {width} 0" for name, width, k in outs])

    def hangs_on(self, texts, name):
        """What a look at a module hangs on."""
        faces = []
        for row in texts[name].split("\n"):
            if row.startswith("use "):
                used = row.split(" ")[2]
                try:
                    faces.append((used, face_of(read_module(texts[used]))))
                except (KeyError, NoText):
                    faces.append((used, None))
        return texts[name], faces

    def test_edits(self):
        for seed in range(12):
            self.edits(random.Random(seed))

    def edits(self, chance):
        stand, texts, kept, last = Stand(), {}, {}, None
        for _ in range(200):
            deed = chance.random()
            name = chance.choice(self.NAMES)
            if deed < 0.45:
                part = chance.choice(self.PARTS if chance.random() < 0.5 else self.PARTS[:2] + self.PARTS[-2:])
                text = part.replace("{}", chance.choice(self.NAMES[:3]))
                stand.put(name, text)
                texts[name] = text
            elif deed < 0.55:
                if name in texts:
                    stand.out(name)
                    del texts[name]
                else:
                    self.assertEqual(refused(NoName, stand.out, name).name, name)
            else:
                last = self.one_make(stand, texts, kept, last)
            design = tuple(sorted(texts.items()))
            self.assertEqual(stand.design(), design)
            self.assertIs(stand.stale(), last is None or last != design)
            self.assertEqual(len(stand), len(texts))

    def one_make(self, stand, texts, kept, last):
        design = tuple(sorted(texts.items()))
        due = []
        if "top" in texts:
            hangs = {name: self.hangs_on(texts, name) for name in texts}
            for name in sorted(texts):
                if kept.get(name) != hangs[name]:
                    due.append(name)
                    kept[name] = hangs[name] if self.right_alone(texts, name) else None
            for name in list(kept):
                if name not in texts:
                    del kept[name]
        at_once = Stand(design)
        try:
            told_at_once = at_once.make()
        except (NoName, Fault, Nested, Ring) as refusal:
            again = refused(refusal.__class__, stand.make)
            self.assertEqual(vars(again), vars(refusal))
            self.assertEqual(stand.made(), tuple(due))
            return last
        self.assertEqual(stand.make(), told_at_once)
        self.assertEqual(stand.made(), tuple(due))
        self.assertIsNone(looked(design))
        self.assertEqual(stand.flat(), flat_of(design, "top")[0])
        beats = mixed_beats(stand.flat(), 5)
        self.assertEqual(stand.run(beats), at_once.run(beats))
        self.assertTrue(stand == at_once)
        return design

    def right_alone(self, texts, name):
        # Beside what can't be read nothing is told of a module by look; here it is right then
        # just where it would be beside some module that could be read.
        unread = [other for other in texts if other != name and not self.reads(texts[other])]
        if not self.reads(texts[name]):
            return False
        tries = itertools.product(self.PARTS[:5] + ("",), repeat=len(unread))
        return any(self.alone({**texts, **dict(zip(unread, parts))}, name) for parts in tries)

    def reads(self, text):
        try:
            read_module(text)
        except NoText:
            return False
        return True

    def test_two_hundred_deeds_that_make_papers(self):
        stand = Stand()
        for k in range(66):
            flat_text = (HALF, HALF_ALIKE, WIDER)[k % 3]
            stand.put("half", flat_text)
            stand.put("top", TOP_TEXT if k % 3 < 2 else TOP_TEXT.replace("y 2", "y 3"))
            paper = stand.make()
            self.assertEqual(paper, Stand(stand.design()).make())
        self.assertIs(stand.stale(), False)


class Soon(unittest.TestCase):
    def test_two_hundred_makes_of_a_great_design(self):
        rows = ["clock c", "in a 8 c"] + [f"box {name} 8 c 1 cut 8 sum {ahead} xor {name} a" for ahead, name in
                                          zip("abdefgh", "bdefghi")] + ["out y 8 c i"]
        flat = flat_rows(*rows)
        stand = Stand(table=(30, 30))
        for k in range(100):
            stand.put("top", text_of(*rows) + f"\nwire w 4 num 4 {k % 16}")
            net = stand.make()[0]
        self.assertGreater(len(net[0]), 300)
        self.assertEqual(stand.flat()[:len(flat)], flat)


if __name__ == "__main__":
    unittest.main()
