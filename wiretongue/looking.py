"""Whether a design is right, and what the expressions of a right one are."""

from wiretongue.clocking import amiss_clocks, clocks_of
from wiretongue.errors import Fault, Nested, NoText
from wiretongue.faces import face_of
from wiretongue.names import amiss_names
from wiretongue.reading import read_module
from wiretongue.rings import ring_in
from wiretongue.scopes import Scope
from wiretongue.widths import amiss_widths, width_of


def amiss_reading(text):
    """The place at which a text can't be read, if there is one."""
    try:
        read_module(text)
    except NoText as refusal:
        return [refusal.place]
    return []


def scopes_of(design):
    """The scope of each module, by name, of a design that can be read."""
    trees = {name: read_module(text) for name, text in design}
    faces = {name: face_of(trees[name]) for name in trees}
    return {name: Scope(trees[name], faces) for name in trees}


def uses_of(scopes):
    """By each module the modules that it uses."""
    return {name: [row[2] for row in scopes[name].tree if row[0] == "use"] for name in scopes}


def refuse_least(stage, amiss):
    """Fault at the least place of the least module in which any is amiss."""
    modules = [name for name in amiss if amiss[name]]
    if modules:
        least = min(modules)
        raise Fault(stage, least, min(amiss[least]))


def look(design):
    """None of a right design; else Fault of the first stage amiss, or Nested."""
    refuse_least("read", {name: amiss_reading(text) for name, text in design})
    scopes = scopes_of(design)
    refuse_least("name", {name: amiss_names(scopes[name]) for name in scopes})
    ring = ring_in(uses_of(scopes))
    if ring:
        raise Nested(ring)
    refuse_least("width", {name: amiss_widths(scopes[name]) for name in scopes})
    refuse_least("clock", {name: amiss_clocks(scopes[name]) for name in scopes})


def wide(design, module, e):
    """How wide an expression is, in a module of a right design."""
    return width_of(scopes_of(design)[module], e, [])


def clocks(design, module, e):
    """The clocks that an expression has, rising, in a module of a right design."""
    return tuple(clocks_of(scopes_of(design)[module], e))
