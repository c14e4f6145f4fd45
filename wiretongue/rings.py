"""Rings of names, each of which follows the one ahead, and their order where there is none."""


def ring_from(start, follows, ended):
    """A ring that the ways from a name come upon, () where there is none.

    What no ring can be reached from any more is put to ended, behind all that
    it follows.
    """
    way = [start]
    come = {start: True}
    while way:
        after = [name for name in follows[way[-1]] if name not in ended]
        if not after:
            ended[way.pop()] = True
        elif after[0] in come:
            return tuple(way[way.index(after[0]):])
        else:
            way.append(after[0])
            come[after[0]] = True
    return ()


def ring_in(follows):
    """A ring of unlike names, each followed by the next, the last by the first; or ()."""
    ended = {}
    for name in follows:
        ring = () if name in ended else ring_from(name, follows, ended)
        if ring:
            return ring
    return ()


def ordered(follows):
    """The names, each behind those that it follows, where no ring is."""
    ended = {}
    for name in follows:
        if name not in ended:
            ring_from(name, follows, ended)
    return list(ended)
