"""What the bits of a flat's names are, made of gates.

Who asks hands in a maker: its bit(gate) tells the bit of a gate whose feeds
are such bits. So the same ways lead to gates, to what they hang on, to worths.
The bits of an expression are a list, the lowest first.
"""

from wiretongue.flatrows import parts_of_flat, rows_of, wires_ordered


def chosen(maker, first, one, other):
    """The bit of one where the first is 1, else that of the other."""
    unlike = maker.bit(("xor", one, other))
    return maker.bit(("xor", other, maker.bit(("and", first, unlike))))


def sum_bits(maker, one, other):
    """The bits of a sum, one more than the wider one has."""
    none = maker.bit(("is", 0))
    width = max(len(one), len(other))
    carry = none
    told = []
    for k in range(width):
        a = one[k] if k < len(one) else none
        c = other[k] if k < len(other) else none
        unlike = maker.bit(("xor", a, c))
        told.append(maker.bit(("xor", unlike, carry)))
        both = maker.bit(("and", a, c))
        carry = maker.bit(("or", both, maker.bit(("and", unlike, carry))))
    return told + [carry]


def same_bit(maker, one, other):
    """The bit that tells whether both are alike."""
    unlike = maker.bit(("is", 0))
    for a, c in zip(one, other):
        unlike = maker.bit(("or", unlike, maker.bit(("xor", a, c))))
    return maker.bit(("not", unlike))


def below_bit(maker, one, other):
    """The bit that tells whether one is below the other."""
    below = maker.bit(("is", 0))
    # The highest bits that are unlike tell, so they come last.
    for a, c in zip(one, other):
        below = chosen(maker, maker.bit(("xor", a, c)), c, below)
    return below


def bits_of_parts(maker, e, parts):
    """The bits of an expression by those of its parts."""
    word = e[0]
    one = parts[0]
    if word == "not":
        return [maker.bit(("not", a)) for a in one]
    if word == "cut":
        return one[:e[1]]
    if word == "bit":
        return [one[e[1]]]
    if word == "sum":
        return sum_bits(maker, one, parts[1])
    if word == "same":
        return [same_bit(maker, one, parts[1])]
    if word == "below":
        return [below_bit(maker, one, parts[1])]
    if word == "join":
        return one + parts[1]
    if word == "pick":
        return [chosen(maker, one[0], a, c) for a, c in zip(parts[1], parts[2])]
    return [maker.bit((word, a, c)) for a, c in zip(one, parts[1])]


def bits_of(maker, e, held):
    """The bits of a flat expression, by those of the paths."""
    if e[0] == "name":
        return held[e[1]]
    if e[0] == "num":
        return [maker.bit(("is", e[2] >> k & 1)) for k in range(e[1])]
    return bits_of_parts(maker, e, [bits_of(maker, part, held) for part in parts_of_flat(e)])


def bits_by_path(maker, flat, held):
    """The bits of each path, by those of the ins and boxes."""
    told = {path: held[path] for path in held}
    for row in wires_ordered(flat) + rows_of(flat, "out"):
        told[row[1]] = bits_of(maker, row[3], told)
    return told


def bits_taken(maker, flat, bits):
    """By each box's path the bits that it takes when its clock beats."""
    return {row[1]: bits_of(maker, row[5], bits) for row in rows_of(flat, "box")}
