"""How wide expressions are, and which widths are amiss in a module."""

from wiretongue.shapes import expressions_of, parts_of

WIDEST_EXPRESSION = 16
ALIKE = ("and", "or", "xor", "same", "below")


def fits(number, width):
    """Whether a number is below 2 ** width."""
    return number < 1 << width


def told_width(e, widths):
    """How wide an expression is, by how wide its parts are."""
    word = e[0]
    if word in ("num", "cut"):
        return e[2]
    if word in ("same", "below", "bit"):
        return 1
    if word == "sum":
        return 1 + max(widths)
    if word == "join":
        return sum(widths)
    return widths[-1]


def amiss_itself(e, widths):
    """The places of an expression that are amiss by how wide its parts are."""
    word = e[0]
    parts = parts_of(e)
    amiss = []
    if word in ALIKE and widths[0] != widths[1]:
        amiss.append(parts[1][1])
    if word == "pick" and widths[0] != 1:
        amiss.append(parts[0][1])
    if word == "pick" and widths[1] != widths[2]:
        amiss.append(parts[2][1])
    if word == "num" and not fits(e[3], e[2]):
        amiss.append(e[1])
    if word == "cut" and e[2] > widths[0]:
        amiss.append(e[1])
    if word == "bit" and e[2] >= widths[0]:
        amiss.append(e[1])
    if told_width(e, widths) > WIDEST_EXPRESSION:
        amiss.append(e[1])
    return amiss


def width_of(scope, e, amiss):
    """How wide an expression is; None where it can't be told.

    The places in it that are amiss are put to amiss.
    """
    if e[0] == "name":
        return scope.width(e[2])
    widths = [width_of(scope, part, amiss) for part in parts_of(e)]
    # Of what stands around something amiss nothing is asked.
    if None in widths:
        return None
    wrong = amiss_itself(e, widths)
    amiss.extend(wrong)
    return None if wrong else told_width(e, widths)


def asked_widths(scope, row):
    """How wide each expression of a row is asked to be, as far as can be told."""
    if row[0] == "use":
        face = scope.face_used(row)
        return [] if face is None else [width for _, width, _ in face[1]]
    if row[0] == "cross":
        return [1]
    return [row[2]] if row[0] in ("out", "wire", "box") else []


def amiss_first_worth(number, row):
    """The place of a first worth that is too great for its row, if it is."""
    if row[0] == "box" and not fits(row[4], row[2]):
        return [(number, 4)]
    if row[0] == "cross" and not fits(row[3], 1):
        return [(number, 3)]
    return []


def amiss_widths(scope):
    """The places of a module, its names right, that are amiss by their widths."""
    amiss = []
    for number, row in enumerate(scope.tree):
        amiss.extend(amiss_first_worth(number, row))
        handed = expressions_of(row)
        widths = [width_of(scope, e, amiss) for e in handed]
        # A module that can't be read asks nothing, so there zip ends at once.
        for e, width, asked in zip(handed, widths, asked_widths(scope, row)):
            if width is not None and width != asked:
                amiss.append(e[1])
    return amiss
