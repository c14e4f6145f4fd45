"""Whether a design is right, and what the expressions of a right one are."""

from wiretongue.clocking import amiss_clocks, clocks_of
from wiretongue.errors import Fault, Nested, NoText
from wiretongue.faces import face_of
from wiretongue.names import amiss_names
from wiretongue.reading import read_module
from wiretongue.rings import ring_in
from wiretongue.scopes import Scope
from wiretongue.widths import amiss_widths, width_of


def tree_of(text):
    """A text's tree, None where it can't be read."""
    try:
        return read_module(text)
    except NoText:
        return None


def faces_of(trees):
    """By name the face of each module, None where it can't be read."""
    return {name: None if trees[name] is None else face_of(trees[name]) for name in trees}


def uses_of(tree):
    """The modules that a tree uses, in order."""
    return [row[2] for row in tree if row[0] == "use"]


def amiss_in(text, faces):
    """The places that are amiss in a module by itself, beside the faces of all: by stage."""
    try:
        scope = Scope(read_module(text), faces)
    except NoText as refusal:
        return {"read": [refusal.place]}
    names = amiss_names(scope)
    if names:
        # Widths and clocks can be asked only where each name stands for something.
        return {"name": names}
    return {"width": amiss_widths(scope), "clock": amiss_clocks(scope)}


def refuse_least(stage, found):
    """Fault at the least place of the least module in which any is amiss at a stage."""
    amiss = {name: found[name].get(stage, []) for name in found}
    modules = [name for name in amiss if amiss[name]]
    if modules:
        least = min(modules)
        raise Fault(stage, least, min(amiss[least]))


def refuse(found, trees):
    """Fault of the first stage at which any was found amiss, or Nested, if either is due.

    Found stands by module what is amiss in it, by stage.
    """
    refuse_least("read", found)
    refuse_least("name", found)
    ring = ring_in({name: uses_of(trees[name]) for name in trees})
    if ring:
        raise Nested(ring)
    refuse_least("width", found)
    refuse_least("clock", found)


def look(design):
    """None of a right design; else Fault of the first stage amiss, or Nested."""
    trees = {name: tree_of(text) for name, text in design}
    faces = faces_of(trees)
    refuse({name: amiss_in(text, faces) for name, text in design}, trees)


def scope_of(design, module):
    """The scope of a module of a right design."""
    trees = {name: read_module(text) for name, text in design}
    return Scope(trees[module], faces_of(trees))


def wide(design, module, e):
    """How wide an expression is, in a module of a right design."""
    return width_of(scope_of(design, module), e, [])


def clocks(design, module, e):
    """The clocks that an expression has, rising, in a module of a right design."""
    return tuple(clocks_of(scope_of(design, module), e))
