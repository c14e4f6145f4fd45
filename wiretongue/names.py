"""Which names are amiss in a module."""

from wiretongue.shapes import clock_words, expressions_of, names_in
from wiretongue.writing import row_words


def amiss_handed(number, use, face):
    """The places at which a use isn't what its module's face asks."""
    amiss = []
    if len(use[3]) != len(face[0]):
        amiss.append((number, 3))
    asked = len(face[1])
    handed = use[4]
    if len(handed) > asked:
        amiss.append(handed[asked][1])
    if len(handed) < asked:
        amiss.append((number, len(row_words(use))))
    return amiss


def amiss_missing(tree, faces):
    """The places at which a tree uses a module that isn't there."""
    return [(number, 2) for number, row in enumerate(tree) if row[0] == "use" and row[2] not in faces]


def amiss_use(scope, number, use):
    """The places of a use that are amiss by the face of its module, if that is told."""
    face = scope.face_used(use)
    return [] if face is None else amiss_handed(number, use, face)


def amiss_row(scope, number, row):
    """The places of a row that are amiss by their names."""
    amiss = []
    if not scope.has_name(number):
        amiss.append((number, 1))
    for word, name in clock_words(row):
        if not scope.is_kind(name, ("clock",)):
            amiss.append((number, word))
    if row[0] == "use":
        amiss.extend(amiss_use(scope, number, row))
    for e in expressions_of(row):
        amiss.extend([name[1] for name in names_in(e) if not scope.stands(name[2])])
    return amiss


def amiss_names(scope):
    """The places of a module that are amiss by their names."""
    amiss = amiss_missing(scope.tree, scope.faces)
    for number, row in enumerate(scope.tree):
        amiss.extend(amiss_row(scope, number, row))
    return amiss
