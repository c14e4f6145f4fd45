"""Point 3, for flats of all sorts: nets, turns, layings and slowest ways tell what the flat tells."""

import random
import unittest

from tests.asking import ins_of, is_plain, mixed_beats, waves_by_net
from wiretongue.beats import told, wave_of
from wiretongue.kinds import TURNS
from wiretongue.laychecks import joined_holds
from wiretongue.laying import laid
from wiretongue.netchecks import net_holds
from wiretongue.nets import net_of
from wiretongue.slowest import slowest
from wiretongue.turns import turned

FEW = 60


class Flats:
    """Flats by a seed: few ins and boxes, e's of all words."""

    def __init__(self, seed):
        self.chance = random.Random(seed)
        self.names = []

    def name(self, width):
        """A name of this width, or what comes next to it."""
        alike = [path for path, wide in self.names if wide == width]
        wider = [path for path, wide in self.names if wide > width]
        if alike and self.chance.random() < 0.9:
            return ("name", self.chance.choice(alike))
        if wider:
            return ("cut", width, ("name", self.chance.choice(wider)))
        return ("num", width, self.chance.randrange(1 << width))

    def e(self, width, depth):
        chance = self.chance
        if depth == 0 or chance.random() < 0.1:
            return self.name(width)
        words = ["not", "and", "or", "xor", "pick", "cut"] + (["same", "below", "bit"] if width == 1 else ["join", "sum"])
        word = chance.choice(words)
        wide = chance.randint(1, 3)
        if word in ("not", "and", "or", "xor"):
            return (word, *[self.e(width, depth - 1) for _ in range(1 if word == "not" else 2)])
        if word == "pick":
            return (word, self.e(1, depth - 1), self.e(width, depth - 1), self.e(width, depth - 1))
        if word == "cut":
            return (word, width, self.e(width + chance.randint(0, 2), depth - 1))
        if word in ("same", "below"):
            return (word, self.e(wide, depth - 1), self.e(wide, depth - 1))
        if word == "bit":
            return (word, chance.randrange(wide), self.e(wide, depth - 1))
        wide = chance.randint(1, width - 1)
        parts = [self.e(width - 1 if word == "sum" else width - wide, depth - 1), self.e(wide, depth - 1)]
        chance.shuffle(parts)
        return (word, *parts)

    def flat(self):
        """A flat whose ins and boxes have at most eight bits together."""
        chance = self.chance
        widths = [chance.randint(1, 3) for _ in range(chance.randint(0, 4))]
        while sum(widths) > 8:
            widths.pop()
        rows = []
        for k, width in enumerate(widths):
            clock = chance.choice("cd")
            rows.append(("in", f"x{k}", width, clock) if chance.random() < 0.5 else
                        ("box", f"b{k}", width, clock, chance.randrange(1 << width)))
            self.names.append((rows[-1][1], width))
        for k in range(chance.randint(0, 4)):
            width = chance.randint(1, 4)
            rows.append(("wire", f"w{k}", width, self.e(width, 3)))
            self.names.append((f"w{k}", width))
        rows = [(*row, self.e(row[2], 3)) if row[0] == "box" else row for row in rows]
        rows += [("out", f"y{k}", width, self.e(width, 2)) for k, width in enumerate([3, 1][:chance.randint(0, 2)])]
        chance.shuffle(rows)
        return tuple(rows)


class Whole(unittest.TestCase):
    def setUp(self):
        self.flats = [Flats(seed).flat() for seed in range(FEW)]

    def alike(self, flat, net, beats):
        """That a net tells of each name what the flat tells, or that a bit of it is gone."""
        for path, wave in waves_by_net(net, beats, ins_of(flat)).items():
            if None not in wave:
                self.assertEqual(wave, wave_of(flat, beats, path))

    def test_told_is_what_the_waves_of_the_outs_are(self):
        for seed, flat in enumerate(self.flats):
            beats = mixed_beats(flat, 12, seed)
            outs = [wave_of(flat, beats, row[1]) for row in flat if row[0] == "out"]
            self.assertEqual(told(flat, beats), tuple(tuple(wave[n] for wave in outs) for n in range(12)))
            self.assertTrue(is_plain(told(flat, beats)))

    def test_nets_turned_in_any_order_laid_and_joined(self):
        for seed, flat in enumerate(self.flats):
            beats = mixed_beats(flat, 12, seed)
            net = net_of(flat)
            self.alike(flat, net, beats)
            self.assertNotIn(None, [bit for wave in waves_by_net(net, beats, ins_of(flat)).values() for bit in wave])
            for turn in random.Random(seed).choices(TURNS, k=5):
                self.assertIs(joined_holds(flat, (40, 40), (net, laid(net, (40, 40)))), True)
                ahead, net = net, turned(net, turn)
                self.assertIs(net_holds(flat, net), True)
                self.assertLessEqual(len(net[0]), len(ahead[0]))
                self.assertEqual(len(turned(net, turn)[0]), len(net[0]))
                self.alike(flat, net, beats)

    def test_whatever_net_is_let_by_tells_the_same(self):
        let = 0
        for seed, flat in enumerate(self.flats):
            chance = random.Random(seed)
            beats = mixed_beats(flat, 12, seed)
            net = net_of(flat)
            for _ in range(10):
                other = amiss(chance, net)
                if net_holds(flat, other):
                    let += 1
                    self.alike(flat, other, beats)
                    self.assertTrue(all(net_holds(flat, turned(other, turn)) for turn in TURNS))
        # So that this is about something.
        self.assertGreater(let, FEW)

    def test_no_way_is_slower(self):
        for flat in self.flats:
            net = net_of(flat)
            laying = laid(net, (40, 40))
            for clock in "cd":
                time, path, arrivals = slowest(net, laying, clock)
                for g, gate in enumerate(net[0]):
                    if gate[:2] == ("box", clock):
                        self.assertLessEqual(arrivals[gate[3]] + len(laying[1][g][0]) - 1, time)
                self.assertEqual(path == (), all(gate[:2] != ("box", clock) for gate in net[0]))


def amiss(chance, net):
    """A net with one thing put otherwise."""
    gates, traces, outs = [list(part) for part in net]
    g = chance.randrange(len(gates)) if gates else 0
    t = chance.randrange(len(traces)) if traces else 0
    what = chance.randrange(4)
    if what == 0 and traces:
        where = chance.choice([("gone",), ("is", 0), ("is", 1), ("gate", g)])
        traces[t] = (*traces[t][:2], where)
    elif what == 1 and gates and gates[g][0] in ("and", "or", "xor"):
        gates[g] = (chance.choice(["and", "or", "xor"]), *gates[g][1:])
    elif what == 2 and gates and gates[g][0] == "box":
        gates[g] = (*gates[g][:3], chance.randrange(len(gates)))
    elif gates:
        gates.append(chance.choice([("not", g), ("and", g, 0), ("box", "c", 0, g), ("is", 1)]))
    return (tuple(gates), tuple(traces), tuple(outs))


if __name__ == "__main__":
    unittest.main()
