"""What the gates of a net are, beat by beat."""

FED = ("not", "and", "or", "xor")


def feeds_of(gate):
    """The feeds of a gate, in order."""
    if gate[0] == "box":
        return (gate[3],)
    return gate[1:] if gate[0] in FED else ()


def told_of_feeds(word, feeds, all_ones):
    """What a not, and, or, xor tells of its feeds, bit by bit of numbers below all ones."""
    if word == "not":
        return feeds[0] ^ all_ones
    if word == "and":
        return feeds[0] & feeds[1]
    return feeds[0] | feeds[1] if word == "or" else feeds[0] ^ feeds[1]


def in_bits(ins, worths):
    """By each (path, k) of the ins what this bit is."""
    return {(path, k): worth >> k & 1 for (path, width), worth in zip(ins, worths) for k in range(width)}


def gates_in_beat(gates, boxed, given):
    """What the gates are in a beat, by what boxes hold and the bits of ins are."""
    bits = []
    for g, gate in enumerate(gates):
        if gate[0] == "is":
            bits.append(gate[1])
        elif gate[0] == "in":
            bits.append(given[gate[1:]])
        elif gate[0] == "box":
            bits.append(boxed[g])
        else:
            bits.append(told_of_feeds(gate[0], [bits[feed] for feed in gate[1:]], 1))
    return bits


def gate_waves(net, beats, ins):
    """For each gate of a net its bits by beats, ins the (path, W) of the flat's."""
    gates = net[0]
    boxes = [g for g, gate in enumerate(gates) if gate[0] == "box"]
    boxed = {g: gates[g][2] for g in boxes}
    by_beats = []
    for clocks, worths in beats:
        bits = gates_in_beat(gates, boxed, in_bits(ins, worths))
        # All take at once, so what they take is told before any has taken it.
        boxed = {g: bits[gates[g][3]] if gates[g][1] in clocks else bits[g] for g in boxes}
        by_beats.append(bits)
    return tuple([tuple([told[g] for told in by_beats]) for g in range(len(gates))])
