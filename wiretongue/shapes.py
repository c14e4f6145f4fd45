"""What stands in rows and expressions, and in which order.

Each letter of a shape is one part: X a name, W a width, K a number, E an
expression, A a name that is read as an expression. A use has no shape, since
its words tell how many of them follow.
"""

ROWS = {
    "clock": "X",
    "in": "XWX",
    "out": "XWXE",
    "wire": "XWE",
    "box": "XWXKE",
    "cross": "XXKA",
}

EXPRESSIONS = {
    "num": "WK",
    "not": "E",
    "and": "EE",
    "or": "EE",
    "xor": "EE",
    "sum": "EE",
    "same": "EE",
    "below": "EE",
    "join": "EE",
    "pick": "EEE",
    "cut": "WE",
    "bit": "KE",
}

WIDEST = 8
GREATEST = 65535
DEEPEST = 12
MOST_CLOCKS = 4
MOST_HANDED = 6


def expressions_of(row):
    """The expressions that stand in a row, in order."""
    if row[0] == "use":
        return row[4]
    return tuple([part for part in row if isinstance(part, tuple)])


def parts_of(e):
    """The expressions that stand straight in an expression, in order."""
    return [part for part in e[2:] if isinstance(part, tuple)]


def names_in(e):
    """The names in an expression, each an expression with its place, in order."""
    if e[0] == "name":
        return [e]
    names = []
    for part in parts_of(e):
        names.extend(names_in(part))
    return names


def clock_words(row):
    """The clocks that a row names: (word, name) of each."""
    if row[0] == "use":
        return [(4 + k, name) for k, name in enumerate(row[3])]
    if row[0] == "cross":
        return [(2, row[2])]
    if row[0] in ("in", "out", "box"):
        return [(3, row[3])]
    return []
