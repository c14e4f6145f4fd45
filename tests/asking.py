"""What several tests ask: how a refusal is told, texts of rows, flats, and what nets tell of them."""

import random
from itertools import combinations, product

from wiretongue.beats import held_by_beats, told_by
from wiretongue.errors import Fault, Nested
from wiretongue.flat import flat_of
from wiretongue.gates import gate_waves
from wiretongue.looking import look


def text_of(*rows):
    """A module's text of these rows."""
    return "\n".join(rows)


def design_of(**texts):
    """A design of modules by name, each a text or a list of rows."""
    parts = []
    for name in sorted(texts):
        text = texts[name]
        parts.append((name, text if isinstance(text, str) else text_of(*text)))
    return tuple(parts)


def refused(error, function, *handed):
    """The refusal of just this class that a function raises."""
    try:
        told = function(*handed)
    except Exception as refusal:
        if refusal.__class__ is not error:
            raise AssertionError(f"{refusal!r} is no {error.__name__}") from refusal
        return refusal
    raise AssertionError(f"told {told!r}, not refused")


def looked(design):
    """None of a right design, else (stage, module, place) or ("nested", ring)."""
    try:
        told = look(design)
    except Fault as fault:
        assert fault.__class__ is Fault
        return (fault.stage, fault.module, fault.place)
    except Nested as nested:
        assert nested.__class__ is Nested
        return ("nested", nested.ring)
    assert told is None
    return None


def looked_rows(*rows):
    """What look tells of a design of one module, without the module's name."""
    told = looked((("top", text_of(*rows)),))
    if told is None or told[0] == "nested":
        return told
    assert told[1] == "top"
    return (told[0], told[2])


def flat_rows(*rows):
    """The flat of a right design of one module, of these rows."""
    design = (("top", text_of(*rows)),)
    assert looked(design) is None, rows
    return flat_of(design, "top")[0]


def is_plain(thing):
    """Whether a thing is made of nothing but texts, whole numbers and tuples."""
    if thing.__class__ is tuple:
        return all(is_plain(part) for part in thing)
    return thing.__class__ in (str, int)


def ins_of(flat):
    """(path, W) of the ins."""
    return tuple((row[1], row[2]) for row in flat if row[0] == "in")


def all_ins(flat):
    """All worths of the ins."""
    return list(product(*[range(1 << width) for _, width in ins_of(flat)]))


def mixed_beats(flat, many, seed=0):
    """Beats of all sorts: of no clock, of one, of several, of one that no row has."""
    chance = random.Random(seed)
    names = sorted({row[3] for row in flat if row[0] in ("in", "box")} | {"nobody"})
    told = []
    for _ in range(many):
        clocks = tuple(name for name in names if chance.random() < 0.6)
        told.append((clocks, tuple(chance.randrange(1 << width) for _, width in ins_of(flat))))
    return tuple(told)


def waves_by_net(net, beats, ins):
    """By path what a net tells of it in each beat, None where a bit of it is gone."""
    waves = gate_waves(net, beats, ins)
    told = {}
    for path, k, where in net[1]:
        bits = waves[where[1]] if where[0] == "gate" else where[1:] * len(beats) or [None] * len(beats)
        wave = told.setdefault(path, [0] * len(beats))
        for n, bit in enumerate(bits):
            wave[n] = None if wave[n] is None or bit is None else wave[n] | bit << k
    return {path: tuple(wave) for path, wave in told.items()}


def where_in(net, path, k=0):
    """Where a net traces a bit of a path."""
    return {trace[:2]: trace[2] for trace in net[1]}[path, k]


C_AND_D = ("clock c", "clock d")
FLATS = {
    "nothing": flat_rows(),
    "an in": flat_rows("clock c", "in x 3 c"),
    "an out": flat_rows("clock c", "out y 3 c num 3 5"),
    "a wire": flat_rows("wire w 2 num 2 1"),
    "no boxes": flat_rows("clock c", "in x 2 c", "in z 2 c", "wire w 3 sum x z", "out y 1 c below x cut 2 w"),
    "no wires": flat_rows("clock c", "in x 2 c", "box b 2 c 1 xor b x", "out y 3 c join bit 0 b x"),
    "no outs": flat_rows("clock c", "in x 1 c", "wire w 1 not x", "box b 1 c 0 w"),
    "boxes alone": flat_rows(*C_AND_D, "box a 2 c 1 not a", "box b 2 d 2 b", "box e 1 c 1 num 1 0"),
    "exchanged": flat_rows("clock c", "box a 3 c 5 b", "box b 3 c 2 a", "out y 3 c a", "out z 3 c b"),
    "counter": flat_rows("clock c", "in on 1 c", "box n 4 c 14 cut 4 sum n on", "out y 4 c n",
                         "out z 1 c same n num 4 0"),
    "crossed": flat_rows(*C_AND_D, "in x 1 c", "cross q d 1 x", "box b 2 d 0 join q bit 0 b", "out y 2 d b",
                         "cross r c 0 q", "out z 1 c and r x"),
    "chosen": flat_rows("clock c", "in s 1 c", "in x 2 c", "in z 2 c", "wire p 2 pick s x z",
                        "out y 2 c pick same x z num 2 3 p", "out u 1 c bit 1 or p not x"),
}


def nested(many):
    """A tuple so deep."""
    told = ()
    for _ in range(many):
        told = (told,)
    return told


OTHERS = (None, True, False, "", "x", "0", "gone", -1, 10 ** 39, (), ((),), [], [()], {}, {"x": 1}, {0: ()}, [{}],
          ({},), nested(30), (0,) * 2000, "~" * 8000, "a\nb", " ")


def altered(thing):
    """Things of the same sort with one part put otherwise, at every depth."""
    if isinstance(thing, tuple):
        yield list(thing) if thing else None
        yield thing + (0,)
        for k, part in enumerate(thing):
            yield thing[:k] + thing[k + 1:]
            yield thing[:k] + (part,) + thing[k:]
            for other in altered(part):
                yield thing[:k] + (other,) + thing[k + 1:]
            if k:
                yield thing[:k - 1] + (part, thing[k - 1]) + thing[k + 1:]
    elif isinstance(thing, int):
        yield from (thing + 1, thing - 1, str(thing), None, (thing,), bool(thing))
    elif isinstance(thing, str):
        yield from (thing + "x", thing[1:], None, 0)


def with_worths(flat, worths):
    """A flat whose boxes hold other worths at first."""
    coming = list(worths)
    return tuple((*row[:4], coming.pop(0), *row[5:]) if row[0] == "box" else row for row in flat)


def standing_of(*flats):
    """What the boxes of flats hold at first."""
    return tuple(tuple(row[4] for row in flat if row[0] == "box") for flat in flats)


def all_beats(one, other):
    """All beats that are told to both of two flats, rising."""
    clocks = sorted({row[3] for row in one + other if row[0] in ("in", "box")})
    beating = sorted(part for many in range(len(clocks) + 1) for part in combinations(clocks, many))
    return list(product(beating, all_ins(one)))


def behind(flat, worths, beat):
    """(what the outs tell in a beat, what the boxes hold behind it), where they hold these worths."""
    held = held_by_beats(with_worths(flat, worths), (beat, beat))
    outs = tuple(held[0][row[1]][1] for row in flat if row[0] == "out")
    return outs, tuple(held[1][row[1]][1] for row in flat if row[0] == "box")


def standings_by_hand(one, other):
    """(all standings that come, those of them at which an out is unlike by some ins)."""
    came, coming, unlike = {standing_of(one, other)}, [standing_of(one, other)], set()
    beats = all_beats(one, other)
    while coming:
        standing = coming.pop()
        for beat in beats:
            told = [behind(flat, worths, beat) for flat, worths in zip((one, other), standing)]
            if told[0][0] != told[1][0]:
                unlike.add(standing)
            late = (told[0][1], told[1][1])
            if late not in came:
                came.add(late)
                coming.append(late)
    return came, unlike


# Pairs of flats of one sort that are alike, by other rows, boxes, clocks.
ALIKE = {
    "the same": (FLATS["counter"], FLATS["counter"]),
    "no ins, no boxes": (flat_rows("clock c", "out y 2 c num 2 1"), flat_rows("clock c", "out y 2 c not num 2 2")),
    "no boxes": (flat_rows("clock c", "in x 2 c", "out y 3 c sum x num 2 1"),
                 flat_rows("clock c", "in x 2 c", "wire w 3 sum num 1 1 x", "out y 3 c w")),
    "no outs": (flat_rows("clock c", "in x 1 c", "box b 1 c 0 x"), flat_rows("clock c", "in x 1 c")),
    "a box more": (flat_rows("clock c", "in x 1 c", "box b 1 c 0 x", "out y 1 c b"),
                   flat_rows("clock c", "in x 1 c", "box m 2 c 2 sum bit 1 m num 1 0", "box q 1 c 0 x", "out y 1 c q")),
    "turned about": (flat_rows("clock c", "in x 1 c", "box b 1 c 0 x", "out y 1 c b"),
                     flat_rows("clock c", "in x 1 c", "box b 1 c 1 not x", "out y 1 c not b")),
    "two for one": (flat_rows("clock c", "in x 1 c", "box n 2 c 0 cut 2 sum n x", "out y 1 c bit 1 n"),
                    flat_rows("clock c", "in x 1 c", "box a 1 c 0 xor a x", "box b 1 c 0 xor b and a x",
                              "out y 1 c b")),
    "two clocks": (flat_rows("clock c", "clock d", "in x 1 c", "box b 1 c 0 x", "cross q d 0 b", "out y 1 d q"),
                   flat_rows("clock c", "clock d", "in x 1 c", "cross q d 0 b", "out y 1 d q", "box b 1 c 0 x")),
    "a clock of one alone": (flat_rows("clock c", "clock d", "in x 1 c", "out y 1 c x", "box b 1 d 0 not b"),
                             flat_rows("clock c", "in x 1 c", "out y 1 c not not x")),
    "a clock of ins alone": (flat_rows("clock c", "clock d", "in x 1 d", "box b 1 c 0 not b", "out y 1 c b"),
                             flat_rows("clock c", "clock d", "in x 1 d", "box m 1 c 1 not m", "out y 1 c not m")),
    "stuck": (flat_rows("clock c", "box b 2 c 2 and b num 2 2", "out y 1 c bit 0 b"),
              flat_rows("clock c", "out y 1 c num 1 0")),
}

# Pairs that are unlike, and the beats that are told of them.
C, NO = ("c",), ()
UNLIKE = {
    "at once": (flat_rows("clock c", "in x 1 c", "out y 1 c x"), flat_rows("clock c", "in x 1 c", "out y 1 c not x"),
                ((NO, (0,)),)),
    "at once by some ins": (flat_rows("clock c", "in x 2 c", "in z 1 c", "out y 1 c and z bit 1 x"),
                            flat_rows("clock c", "in x 2 c", "in z 1 c", "out y 1 c num 1 0"), ((NO, (2, 1)),)),
    "no ins": (flat_rows("clock c", "out y 1 c num 1 0"), flat_rows("clock c", "out y 1 c num 1 1"), ((NO, ()),)),
    "by what boxes hold at first": (flat_rows("clock c", "box b 1 c 0 b", "out y 1 c b"),
                                    flat_rows("clock c", "box b 1 c 1 b", "out y 1 c b"), ((NO, ()),)),
    "behind one beat": (flat_rows("clock c", "in x 1 c", "box b 1 c 0 x", "out y 1 c b"),
                        flat_rows("clock c", "in x 1 c", "out y 1 c num 1 0"), ((C, (1,)), (NO, (0,)))),
    "behind three": (flat_rows("clock c", "box n 2 c 0 cut 2 sum n num 1 1", "out y 1 c same n num 2 3"),
                     flat_rows("clock c", "out y 1 c num 1 0"), ((C, ()),) * 3 + ((NO, ()),)),
    "the second out": (flat_rows("clock c", "in x 1 c", "out y 1 c x", "out z 2 c num 2 0"),
                       flat_rows("clock c", "in x 1 c", "out y 1 c x", "out z 2 c join x num 1 0"), ((NO, (1,)),)),
    "a high bit": (flat_rows("clock c", "in x 3 c", "out y 3 c x"),
                   flat_rows("clock c", "in x 3 c", "out y 3 c join cut 2 x num 1 0"), ((NO, (4,)),)),
    "one clock ahead of the other": (
        flat_rows("clock c", "clock d", "in x 1 c", "box b 1 d 0 not b", "out y 1 d b"),
        flat_rows("clock c", "clock d", "in x 1 c", "out y 1 d num 1 0"), ((("c", "d"), (0,)), (NO, (0,)))),
    "clocks one behind the other": (
        flat_rows("clock c", "clock d", "in x 1 c", "box b 1 c 0 x", "cross q d 0 b", "out y 1 d q"),
        flat_rows("clock c", "clock d", "in x 1 c", "out y 1 d num 1 0"),
        ((C, (1,)), (("c", "d"), (0,)), (("c", "d"), (0,)), (NO, (0,)))),
    "a clock that only the other has": (
        flat_rows("clock c", "out y 1 c num 1 0"),
        flat_rows("clock c", "clock d", "box b 1 d 0 num 1 1", "cross q c 0 b", "out y 1 c q"),
        ((("c", "d"), ()), (C, ()), (C, ()), (NO, ()))),
    "a way back": (flat_rows("clock c", "in x 1 c", "box n 2 c 0 pick x cut 2 sum n num 1 1 num 2 0",
                             "out y 1 c same n num 2 2"),
                   flat_rows("clock c", "in x 1 c", "out y 1 c num 1 0"), ((C, (1,)), (C, (1,)), (NO, (0,)))),
}


def names_in(e):
    """The paths that a flat e names."""
    if e[0] == "name":
        return {e[1]}
    return {path for part in e[1:] if isinstance(part, tuple) for path in names_in(part)}


def is_forced(e, k, b, known, widths):
    """Whether bit k of an e is b by all worths of the bits of its names that aren't known."""
    free = [(path, bit) for path in sorted(names_in(e)) for bit in range(widths[path]) if (path, bit) not in known]
    for bits in product((0, 1), repeat=len(free)):
        told = {**known, **dict(zip(free, bits))}
        held = {path: (widths[path], sum(told[path, bit] << bit for bit in range(widths[path]))) for path in names_in(e)}
        if told_by(e, held)[1] >> k & 1 != b:
            return False
    return True


def why_by_hand(flat, beats, path, k, n, steps):
    """Whether steps that are formed as they should be are a why, reckoned by all words of the document."""
    rows = {row[1]: row for row in flat}
    widths = {row[1]: row[2] for row in flat}
    ins = [row[1] for row in flat if row[0] == "in"]
    ahead = {}
    for name, bit, m, b in steps:
        row = rows[name]
        if (name, bit, m) in ahead:
            return False
        if row[0] == "in":
            due = beats[m][1][ins.index(name)] >> bit & 1 == b
        elif row[0] == "box" and m == 0:
            due = row[4] >> bit & 1 == b
        elif row[0] == "box" and row[3] not in beats[m - 1][0]:
            due = ahead.get((name, bit, m - 1)) == b
        else:
            then = m - 1 if row[0] == "box" else m
            known = {step[:2]: ahead[step] for step in ahead if step[2] == then and step[0] in names_in(row[-1])}
            due = is_forced(row[-1], bit, b, known, widths)
        if not due:
            return False
        ahead[name, bit, m] = b
    return len(steps) > 0 and steps[-1][:3] == (path, k, n)
