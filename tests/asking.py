"""What several tests ask: how a refusal is told, texts of rows, flats, and what nets tell of them."""

import random
from itertools import product

from wiretongue.errors import Fault, Nested
from wiretongue.flat import flat_of
from wiretongue.gates import gate_waves
from wiretongue.looking import look


def text_of(*rows):
    """A module's text of these rows."""
    return "\n".join(rows)


def design_of(**texts):
    """A design of modules by name, each a text or a list of rows."""
    parts = []
    for name in sorted(texts):
        text = texts[name]
        parts.append((name, text if isinstance(text, str) else text_of(*text)))
    return tuple(parts)


def refused(error, function, *handed):
    """The refusal of just this class that a function raises."""
    try:
        told = function(*handed)
    except Exception as refusal:
        if refusal.__class__ is not error:
            raise AssertionError(f"{refusal!r} is no {error.__name__}") from refusal
        return refusal
    raise AssertionError(f"told {told!r}, not refused")


def looked(design):
    """None of a right design, else (stage, module, place) or ("nested", ring)."""
    try:
        told = look(design)
    except Fault as fault:
        assert fault.__class__ is Fault
        return (fault.stage, fault.module, fault.place)
    except Nested as nested:
        assert nested.__class__ is Nested
        return ("nested", nested.ring)
    assert told is None
    return None


def looked_rows(*rows):
    """What look tells of a design of one module, without the module's name."""
    told = looked((("top", text_of(*rows)),))
    if told is None or told[0] == "nested":
        return told
    assert told[1] == "top"
    return (told[0], told[2])


def flat_rows(*rows):
    """The flat of a right design of one module, of these rows."""
    design = (("top", text_of(*rows)),)
    assert looked(design) is None, rows
    return flat_of(design, "top")[0]


def is_plain(thing):
    """Whether a thing is made of nothing but texts, whole numbers and tuples."""
    if thing.__class__ is tuple:
        return all(is_plain(part) for part in thing)
    return thing.__class__ in (str, int)


def ins_of(flat):
    """(path, W) of the ins."""
    return tuple((row[1], row[2]) for row in flat if row[0] == "in")


def all_ins(flat):
    """All worths of the ins."""
    return list(product(*[range(1 << width) for _, width in ins_of(flat)]))


def mixed_beats(flat, many, seed=0):
    """Beats of all sorts: of no clock, of one, of several, of one that no row has."""
    chance = random.Random(seed)
    names = sorted({row[3] for row in flat if row[0] in ("in", "box")} | {"nobody"})
    told = []
    for _ in range(many):
        clocks = tuple(name for name in names if chance.random() < 0.6)
        told.append((clocks, tuple(chance.randrange(1 << width) for _, width in ins_of(flat))))
    return tuple(told)


def waves_by_net(net, beats, ins):
    """By path what a net tells of it in each beat, None where a bit of it is gone."""
    waves = gate_waves(net, beats, ins)
    told = {}
    for path, k, where in net[1]:
        bits = waves[where[1]] if where[0] == "gate" else where[1:] * len(beats) or [None] * len(beats)
        wave = told.setdefault(path, [0] * len(beats))
        for n, bit in enumerate(bits):
            wave[n] = None if wave[n] is None or bit is None else wave[n] | bit << k
    return {path: tuple(wave) for path, wave in told.items()}


def where_in(net, path, k=0):
    """Where a net traces a bit of a path."""
    return {trace[:2]: trace[2] for trace in net[1]}[path, k]


C_AND_D = ("clock c", "clock d")
FLATS = {
    "nothing": flat_rows(),
    "an in": flat_rows("clock c", "in x 3 c"),
    "an out": flat_rows("clock c", "out y 3 c num 3 5"),
    "a wire": flat_rows("wire w 2 num 2 1"),
    "no boxes": flat_rows("clock c", "in x 2 c", "in z 2 c", "wire w 3 sum x z", "out y 1 c below x cut 2 w"),
    "no wires": flat_rows("clock c", "in x 2 c", "box b 2 c 1 xor b x", "out y 3 c join bit 0 b x"),
    "no outs": flat_rows("clock c", "in x 1 c", "wire w 1 not x", "box b 1 c 0 w"),
    "boxes alone": flat_rows(*C_AND_D, "box a 2 c 1 not a", "box b 2 d 2 b", "box e 1 c 1 num 1 0"),
    "exchanged": flat_rows("clock c", "box a 3 c 5 b", "box b 3 c 2 a", "out y 3 c a", "out z 3 c b"),
    "counter": flat_rows("clock c", "in on 1 c", "box n 4 c 14 cut 4 sum n on", "out y 4 c n",
                         "out z 1 c same n num 4 0"),
    "crossed": flat_rows(*C_AND_D, "in x 1 c", "cross q d 1 x", "box b 2 d 0 join q bit 0 b", "out y 2 d b",
                         "cross r c 0 q", "out z 1 c and r x"),
    "chosen": flat_rows("clock c", "in s 1 c", "in x 2 c", "in z 2 c", "wire p 2 pick s x z",
                        "out y 2 c pick same x z num 2 3 p", "out u 1 c bit 1 or p not x"),
}


def nested(many):
    """A tuple so deep."""
    told = ()
    for _ in range(many):
        told = (told,)
    return told


OTHERS = (None, True, False, "", "x", "0", "gone", -1, 10 ** 39, (), ((),), [], [()], {}, {"x": 1}, {0: ()}, [{}],
          ({},), nested(30), (0,) * 2000, "~" * 8000, "a\nb", " ")


def altered(thing):
    """Things of the same sort with one part put otherwise, at every depth."""
    if isinstance(thing, tuple):
        yield list(thing) if thing else None
        yield thing + (0,)
        for k, part in enumerate(thing):
            yield thing[:k] + thing[k + 1:]
            yield thing[:k] + (part,) + thing[k:]
            for other in altered(part):
                yield thing[:k] + (other,) + thing[k + 1:]
            if k:
                yield thing[:k - 1] + (part, thing[k - 1]) + thing[k + 1:]
    elif isinstance(thing, int):
        yield from (thing + 1, thing - 1, str(thing), None, (thing,), bool(thing))
    elif isinstance(thing, str):
        yield from (thing + "x", thing[1:], None, 0)
