"""Which clocks expressions have, and which clocks are amiss in a module."""

from wiretongue.shapes import expressions_of, names_in


def words_in(e):
    """The names in an expression, each once."""
    return list({name[2]: True for name in names_in(e)})


def wires_of(scope):
    """By each wire's name the names in its expression."""
    return {row[1]: words_in(row[3]) for row in scope.tree if row[0] == "wire"}


def clocks_reached(scope, wires, e):
    """The clocks that an expression has, rising, through the wires that it names."""
    told = {}
    seen = {}
    coming = words_in(e)
    while coming:
        word = coming.pop()
        if word in seen:
            continue
        seen[word] = True
        if word in wires:
            coming.extend(wires[word])
        else:
            told[scope.clock(word)] = True
    return sorted([clock for clock in told if clock is not None])


def clocks_of(scope, e):
    """The clocks that an expression has, rising."""
    return clocks_reached(scope, wires_of(scope), e)


def asked_clocks(scope, row):
    """For each expression of a row the clock that it is to have, None of any clock.

    Of a wire and a cross, of which something else is asked, none is told.
    """
    if row[0] == "use":
        face = scope.face_used(row)
        ins = () if face is None else face[1]
        return [None if number is None else row[3][number] for _, _, number in ins]
    return [row[3]] if row[0] in ("out", "box") else []


def takes_other_clock(scope, cross):
    """Whether a cross takes an in, a box or a cross of another clock than its own."""
    word = cross[4][2]
    return scope.is_kind(word, ("in", "box", "cross")) and scope.clock(word) != cross[2]


def amiss_row(scope, wires, row):
    """The places of a row that are amiss by their clocks."""
    if row[0] == "wire":
        return [row[3][1]] if len(clocks_reached(scope, wires, row[3])) > 1 else []
    if row[0] == "cross":
        return [] if takes_other_clock(scope, row) else [row[4][1]]
    amiss = []
    for e, asked in zip(expressions_of(row), asked_clocks(scope, row)):
        # None asks nothing, so with it no clock is another one.
        others = [clock for clock in clocks_reached(scope, wires, e) if clock != asked]
        if asked is not None and others:
            amiss.append(e[1])
    return amiss


def amiss_clocks(scope):
    """The places of a module, its names right, that are amiss by their clocks."""
    wires = wires_of(scope)
    amiss = []
    for row in scope.tree:
        amiss.extend(amiss_row(scope, wires, row))
    return amiss
