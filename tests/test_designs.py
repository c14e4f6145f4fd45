"""Point 3, from texts to whys: what each part of the program tells, held against the others."""

import random
import time
import unittest

from tests.asking import (
    ins_of, is_plain, looked, mixed_beats, names_in, refused, standing_of, text_of, why_by_hand,
)
from wiretongue.beats import told, wave_of
from wiretongue.errors import NoRoom, TooMany
from wiretongue.faces import face_of
from wiretongue.flat import flat_of
from wiretongue.gates import gate_waves
from wiretongue.kinds import DELAYS, TURNS
from wiretongue.laychecks import joined_holds, laid_holds
from wiretongue.laying import laid
from wiretongue.looking import clocks, look, wide
from wiretongue.netchecks import net_holds
from wiretongue.nets import net_of
from wiretongue.partchecks import alike_holds, parted_holds
from wiretongue.parting import parted
from wiretongue.reading import read_module
from wiretongue.slowchecks import slowest_holds
from wiretongue.slowest import slowest
from wiretongue.stands import Stand
from wiretongue.things import read_thing, show_thing
from wiretongue.turns import turned
from wiretongue.waves import Waves
from wiretongue.whychecks import why_holds
from wiretongue.whys import why_of
from wiretongue.writing import show_module

FEW = 40
TABLE = (40, 40)


class Rows:
    """A right module's rows by a seed: names of one clock, e's of all words."""

    def __init__(self, chance, clock):
        self.chance = chance
        self.clock = clock
        self.rows = []
        self.names = []

    def word(self, width):
        """A name of this width, or what comes next to it."""
        alike = [name for name, wide_as in self.names if wide_as == width]
        wider = [name for name, wide_as in self.names if wide_as > width]
        if alike and self.chance.random() < 0.8:
            return self.chance.choice(alike)
        if wider:
            return f"cut {width} {self.chance.choice(wider)}"
        return f"num {width} {self.chance.randrange(1 << width)}"

    def e(self, width, depth):
        chance = self.chance
        if depth == 0 or chance.random() < 0.2:
            return self.word(width)
        words = ["not", "and", "or", "xor", "pick", "cut"] + (["same", "below", "bit"] if width == 1 else ["join", "sum"])
        word = chance.choice(words)
        wide_as = chance.randint(1, 2)
        if word in ("and", "or", "xor"):
            return f"{word} {self.e(width, depth - 1)} {self.e(width, depth - 1)}"
        if word == "not":
            return f"not {self.e(width, depth - 1)}"
        if word == "pick":
            return f"pick {self.e(1, depth - 1)} {self.e(width, depth - 1)} {self.e(width, depth - 1)}"
        if word == "cut":
            return f"cut {width} {self.e(width + chance.randint(0, 2), depth - 1)}"
        if word in ("same", "below"):
            return f"{word} {self.e(wide_as, depth - 1)} {self.e(wide_as, depth - 1)}"
        if word == "bit":
            return f"bit {chance.randrange(wide_as)} {self.e(wide_as, depth - 1)}"
        if word == "sum":
            return f"sum {self.e(width - 1, depth - 1)} {self.e(chance.randint(1, width - 1), depth - 1)}"
        return f"join {self.e(width - 1, depth - 1)} {self.e(1, depth - 1)}"

    def add(self, word, name, width, said):
        self.rows.append(said)
        if word != "out":
            self.names.append((name, width))


def sub_text(chance):
    """A module of one clock with two ins, and an out of two bits."""
    made = Rows(chance, "k")
    made.add("in", "a", 1, "in a 1 k")
    made.add("in", "b", 2, "in b 2 k")
    width = chance.randint(1, 2)
    made.names.append(("m", width))
    made.add("wire", "w", 2, f"wire w 2 {made.e(2, 2)}")
    made.rows.append(f"box m {width} k {chance.randrange(1 << width)} {made.e(width, 2)}")
    made.add("out", "y", 2, f"out y 2 k {made.e(2, 2)}")
    chance.shuffle(made.rows)
    # The order of ins is what a use hands by.
    ins = sorted(row for row in made.rows if row.startswith("in "))
    return text_of("clock k", *ins, *[row for row in made.rows if not row.startswith("in ")])


def top_text(chance):
    """A module of two clocks that uses the other one twice, with a cross between."""
    made = Rows(chance, "c")
    made.add("in", "x", 2, "in x 2 c")
    made.names.append(("n", 1))
    made.add("wire", "v", 2, f"wire v 2 {made.e(2, 2)}")
    made.add("use", "i.y", 2, f"use i sub 1 c {made.e(1, 1)} {made.e(2, 1)}")
    made.rows.append(f"box n 1 c {chance.randrange(2)} {made.e(1, 2)}")
    made.add("out", "y", 3, f"out y 3 c {made.e(3, 2)}")
    made.rows.append("cross q d 1 n")
    other = Rows(chance, "d")
    other.names.append(("q", 1))
    other.add("use", "j.y", 2, f"use j sub 1 d {other.e(1, 1)} {other.e(2, 1)}")
    other.add("out", "z", 2, f"out z 2 d {other.e(2, 2)}")
    return text_of("clock c", "clock d", *made.rows, *other.rows)


def design_by(seed):
    """A right design whose flat has ins and boxes of at most ten bits."""
    chance = random.Random(seed)
    return (("sub", sub_text(chance)), ("top", top_text(chance)))


class Designs(unittest.TestCase):
    def setUp(self):
        self.designs = [design_by(seed) for seed in range(FEW)]

    def test_they_are_right_and_written_as_they_were(self):
        for design in self.designs:
            self.assertIsNone(looked(design), design)
            for name, text in design:
                self.assertEqual(show_module(read_module(text)), text)
            flat, whence = flat_of(design, "top")
            self.assertEqual(len(flat), len(whence))
            self.assertTrue(is_plain((flat, whence)))

    def test_a_module_put_in_twice_is_alike_twice(self):
        for seed, design in enumerate(self.designs):
            chance = random.Random(seed)
            top = text_of("clock c", "in x 1 c", "in z 2 c", "use i sub 1 c x z", "use j sub 1 c x z", "out y 2 c i.y",
                          "out u 2 c j.y")
            flat = flat_of((design[0], ("top", top)), "top")[0]
            beats = mixed_beats(flat, 20, seed)
            for row in flat:
                if row[1].startswith("i."):
                    self.assertEqual(wave_of(flat, beats, row[1]), wave_of(flat, beats, "j" + row[1][1:]))
            self.assertTrue(all(outs[0] == outs[1] for outs in told(flat, beats)))
            # Neither does it hang on the order in which rows stand.
            rows = top.split("\n")
            order = [rows[0], *rows[1:3], *chance.sample(rows[3:5], 2), *rows[5:]]
            other = flat_of((design[0], ("top", text_of(*order))), "top")[0]
            self.assertEqual(told(other, beats), told(flat, beats))

    def test_papers_tell_what_texts_tell(self):
        for seed, design in enumerate(self.designs):
            flat = flat_of(design, "top")[0]
            beats = mixed_beats(flat, 60, seed)
            waves_told = {row[1]: wave_of(flat, beats, row[1]) for row in flat}
            net = net_of(flat)
            for turn in (None, *TURNS):
                net = net if turn is None else turned(net, turn)
                laying = laid(net, TABLE)
                paper = read_thing(show_thing((net, laying)))
                self.assertEqual(paper, (net, laying))
                self.assertIs(joined_holds(flat, TABLE, paper), True)
                waves = Waves(flat, net, beats)
                bits = gate_waves(net, beats, ins_of(flat))
                for path in waves.paths():
                    wave = waves_told[path]
                    gone = waves.lacking(path)
                    self.assertEqual(waves.wave(path), (None,) * 60 if gone else wave)
                    for k, where in enumerate(waves.gates(path)):
                        if where[0] == "gate":
                            self.assertEqual(bits[where[1]], tuple(worth >> k & 1 for worth in wave))
                            self.assertIn((path, k), waves.names_at(where[1]))
                        self.assertEqual(where[0] == "gone", k in gone)

    def test_slowest_ways(self):
        for design in self.designs:
            flat = flat_of(design, "top")[0]
            net = turned(net_of(flat), "drop")
            laying = laid(net, TABLE)
            for delays in (DELAYS, (0, 1, 1), (7, 0, 2)):
                for clock in "cde":
                    slow = slowest(net, laying, clock, delays=delays)
                    self.assertIs(slowest_holds(net, laying, clock, slow, delays=delays), True)
                    for time_told in (slow[0] - 1, slow[0] + 1):
                        thing = (time_told, *slow[1:])
                        self.assertIs(slowest_holds(net, laying, clock, thing, delays=delays), False)

    def test_a_stand_tells_the_same(self):
        stand = Stand(table=TABLE)
        for seed, design in enumerate(self.designs):
            for name, text in design:
                stand.put(name, text)
            paper = stand.make()
            flat, whence = flat_of(design, "top")
            beats = mixed_beats(flat, 10, seed)
            net = net_of(flat)
            for turn in TURNS:
                net = turned(net, turn)
            self.assertEqual(paper[0], net)
            self.assertIs(joined_holds(flat, TABLE, paper), True)
            self.assertEqual(stand.run(beats), told(flat, beats))
            self.assertEqual([stand.whence(row[1]) for row in flat], list(whence))
            self.assertTrue(stand.waves(beats) == Waves(flat, net, beats))
            for clock in "cd":
                path = stand.slowest(clock)[1]
                self.assertEqual(len(stand.led(clock)), len(path))
                for g, names in zip(path, stand.led(clock)):
                    self.assertTrue(all(stand.waves(()).gates(name)[k] == ("gate", g) for name, k in names))
                    # A box leads to names in the texts, and these to their rows.
                    self.assertTrue(names or net[0][g][0] in ("is", "not", "and", "or", "xor"))
                    self.assertTrue(all(stand.whence(name)[0] in ("sub", "top") for name, _ in names))
            self.assertEqual(stand.made(), ("sub", "top"))
            self.assertTrue(stand == Stand(design, table=TABLE))

    def test_an_edit_that_leaves_the_flat_alike(self):
        for seed, design in enumerate(self.designs[:12]):
            stand = Stand(design, table=TABLE)
            stand.make()
            flat = stand.flat()
            stand.put("sub", design[0][1].replace("out y 2 k ", "out y 2 k not not "))
            stand.make()
            self.assertEqual(stand.made(), ("sub",))
            self.held_together(flat, stand.flat(), "alike")
            self.held_together(flat, flat, "alike")
            stand.put("sub", design[0][1].replace("out y 2 k ", "out y 2 k not "))
            stand.make()
            self.held_together(flat, stand.flat(), None, mixed_beats(flat, 30, seed))

    def held_together(self, one, other, due, beats=()):
        """That what is told of two flats is so of them: alike, or parted by fewest beats."""
        try:
            said = parted(one, other, most=2000)
        except TooMany:
            return
        if due is not None:
            self.assertEqual(said[0], due)
        if said[0] == "alike":
            self.assertIs(alike_holds(one, other, said), True)
            self.assertIs(parted_holds(one, other, said), False)
            self.assertIn(standing_of(one, other), said[1])
            self.assertEqual(told(one, beats), told(other, beats))
        else:
            self.assertIs(parted_holds(one, other, said), True)
            self.assertIs(alike_holds(one, other, said), False)
            outs, others = told(one, said[1]), told(other, said[1])
            self.assertEqual((outs[:-1], outs[-1] != others[-1]), (others[:-1], True))
        self.assertEqual(read_thing(show_thing(said)), said)

    def test_whys(self):
        for seed, design in enumerate(self.designs):
            chance = random.Random(seed)
            flat, whence = flat_of(design, "top")
            beats = tuple((tuple(name for name in "cd" if chance.random() < 0.7), worths)
                          for _, worths in mixed_beats(flat, 12, seed))
            for row in chance.sample(flat, 6):
                k, n = chance.randrange(row[2]), chance.randrange(12)
                why = why_of(flat, beats, row[1], k, n)
                self.assertIs(why_holds(flat, beats, row[1], k, n, why), True)
                self.assertTrue(why_by_hand(flat, beats, row[1], k, n, why))
                for path, bit, m, b in why:
                    self.assertEqual(wave_of(flat, beats, path)[m] >> bit & 1, b)
                for at in range(len(why)):
                    self.assertIs(why_holds(flat, beats, row[1], k, n, why[:at] + why[at + 1:]), False)
                self.assertEqual(read_thing(show_thing(why)), why)

    def test_no_clocks_worth_comes_into_another_but_through_two_boxes(self):
        for design in self.designs:
            rows = {row[1]: row for row in flat_of(design, "top")[0]}

            def clocks_in(path):
                if rows[path][0] in ("in", "box"):
                    return {rows[path][3]}
                return {clock for name in names_in(rows[path][-1]) for clock in clocks_in(name)}

            for row in rows.values():
                if row[0] == "box":
                    held = {clock for name in names_in(row[-1]) for clock in clocks_in(name)}
                    self.assertLessEqual(held, {"c"} if row[1] == "q.one" else {row[3]})
                elif row[0] == "out":
                    self.assertLessEqual(clocks_in(row[1]), {"c"} if row[1] == "y" else {"d"})
            self.assertEqual(rows["q"][2:], (1, "d", 1, ("name", "q.one")))
            self.assertEqual(rows["q.one"][2:], (1, "d", 1, ("name", "n")))


class Bounds(unittest.TestCase):
    """That all is told soon, as far as the bounds of point 2 go."""

    def soon(self, seconds=20):
        self.assertLess(time.process_time() - self.began, seconds)

    def setUp(self):
        self.began = time.process_time()

    def test_four_modules_of_thirty_rows(self):
        texts = {}
        for name, used in (("a", None), ("b", "a"), ("d", "b"), ("top", "d")):
            rows = ["clock c", "in x 4 c"] + ([f"use i {used} 1 c x"] if used else [])
            last = "i.y" if used else "x"
            while len(rows) < 29:
                wire = "w" + "abcdefghijklmnopqrstuvwxyz"[len(rows) % 26] * (1 + len(rows) // 26)
                rows.append(f"wire {wire} 4 xor {last} pick same {last} x cut 4 sum {last} x not {last}")
                last = wire
            texts[name] = text_of(*rows, f"out y 4 c {last}")
            self.assertEqual(len(rows) + 1, 30)
        design = tuple(sorted(texts.items()))
        self.assertIsNone(look(design))
        self.assertEqual(wide(design, "top", ("name", (0, 0), "i.y")), 4)
        self.assertEqual(clocks(design, "top", ("name", (0, 0), "i.y")), ("c",))
        flat, whence = flat_of(design, "top")
        self.assertEqual(len(flat), len(whence))
        beats = mixed_beats(flat, 60)
        self.assertEqual(len(told(flat, beats)), 60)
        net = net_of(flat)
        self.assertGreater(len(net[0]), 1000)
        for turn in TURNS:
            net = turned(net, turn)
        self.assertIs(net_holds(flat, net), True)
        laying = laid(net, (80, 80))
        self.assertIs(laid_holds(net, (80, 80), laying), True)
        self.assertIs(slowest_holds(net, laying, "c", slowest(net, laying, "c")), True)
        waves = Waves(flat, net, beats)
        self.assertEqual(waves.wave("y"), wave_of(flat, beats, "y"))
        stand = Stand(design, table=(80, 80))
        self.assertEqual(stand.make(), (net, laying))
        self.assertEqual(read_thing(show_thing(stand.paper())), stand.paper())
        self.soon()

    def test_thirty_rows_that_name_the_one_ahead_twice(self):
        letters = "abdefghijklmnopqrstuvwxyz"
        rows = ["clock c", "in x 1 c", "box wa 1 c 1 xor wa x"]
        for ahead, name in zip(letters, letters[1:]):
            rows.append(f"wire w{name} 1 xor and w{ahead} w{ahead} or x w{ahead}")
        rows += ["wire za 1 and wz wz", "out y 1 c xor za za", "out z 1 c or za za"]
        design = (("top", text_of(*rows)),)
        self.assertEqual(len(rows), 30)
        self.assertIsNone(look(design))
        self.assertEqual(face_of(read_module(design[0][1]))[2], (("y", 1, 0), ("z", 1, 0)))
        flat = flat_of(design, "top")[0]
        beats = mixed_beats(flat, 12)
        for path in ("y", "z"):
            for n in (0, 11):
                why = why_of(flat, beats, path, 0, n)
                self.assertIs(why_holds(flat, beats, path, 0, n, why), True)
        self.held_alike(flat)
        stand = Stand(design)
        stand.make()
        self.assertEqual(stand.run(beats), told(flat, beats))
        self.assertIs(joined_holds(flat, stand.options()[2], stand.paper()), True)
        self.soon()

    def held_alike(self, flat):
        other = tuple((*row[:3], ("not", ("not", row[3]))) if row[0] == "out" else row for row in flat)
        said = parted(flat, other)
        self.assertEqual(said[0], "alike")
        self.assertIs(alike_holds(flat, other, said), True)

    def test_thirty_names_of_ninety_bits(self):
        rows = ["clock c", "clock d", "in x 3 c", "box m 3 c 5 cut 3 sum m x", "box n 4 d 0 cut 4 sum n num 1 1"]
        for k, letter in enumerate("abcdefghijklmnopqrstuvw"):
            ahead = "m" if k == 0 else "w" + "abcdefghijklmnopqrstuvw"[k - 1]
            rows.append(f"wire w{letter} 3 pick below {ahead} x xor {ahead} m cut 3 sum {ahead} x")
        rows += ["out y 3 c ww", "out z 4 d n", "out u 3 c xor ww m", "out t 1 d bit 2 n"]
        flat = flat_of((("top", text_of(*rows)),), "top")[0]
        self.assertEqual(len(flat), 30)
        self.assertEqual(sum(row[2] for row in flat), 90)
        beats = mixed_beats(flat, 60)
        outs = told(flat, beats)
        self.assertEqual(tuple(worths[0] for worths in outs), wave_of(flat, beats, "y"))
        net = net_of(flat)
        for turn in TURNS:
            net = turned(net, turn)
        self.assertIs(joined_holds(flat, (30, 30), (net, laid(net, (30, 30)))), True)
        self.assertEqual(refused(NoRoom, laid, net, (1, 1)).many, len(net[0]))
        for path, k in (("y", 0), ("y", 2), ("u", 1), ("z", 3)):
            why = why_of(flat, beats[:12], path, k, 11)
            self.assertIs(why_holds(flat, beats[:12], path, k, 11, why), True)
        other = tuple((*row[:3], ("not", ("not", row[3]))) if row[0] == "out" else row for row in flat)
        self.assertEqual(refused(TooMany, parted, flat, other).most, 100)
        said = parted(flat, other, most=128)
        self.assertEqual((said[0], len(said[1])), ("alike", 128))
        self.assertIs(alike_holds(flat, other, said), True)
        self.soon()

    def test_chains_of_thousands_of_gates(self):
        many = 4000
        flat = (("in", "x", 1, "c"), ("out", "y", 1, ("name", "x")))
        gates = (("in", "x", 0), *[("not", g) for g in range(many)])
        net = (gates, (("x", 0, ("gate", 0)), ("y", 0, ("gate", many))), ("y",))
        self.assertIs(net_holds(flat, net), True)
        self.assertIs(net_holds(flat, (gates, (("x", 0, ("gate", 0)), ("y", 0, ("gate", many - 1))), ("y",))), False)
        laying = laid(net, (70, 70))
        self.assertIs(joined_holds(flat, (70, 70), (net, laying)), True)
        for turn in TURNS:
            self.assertIs(net_holds(flat, turned(net, turn)), True)
        beats = mixed_beats(flat, 60)
        self.assertEqual(Waves(flat, net, beats).wave("y"), wave_of(flat, beats, "x"))
        self.assertIs(slowest_holds(net, laying, "c", slowest(net, laying, "c")), True)
        self.assertEqual(read_thing(show_thing(net)), net)
        self.soon()


if __name__ == "__main__":
    unittest.main()
