"""What several tests ask: how a refusal is told, and a text of rows."""

from wiretongue.errors import Fault, Nested
from wiretongue.looking import look


def text_of(*rows):
    """A module's text of these rows."""
    return "\n".join(rows)


def design_of(**texts):
    """A design of modules by name, each a text or a list of rows."""
    parts = []
    for name in sorted(texts):
        text = texts[name]
        parts.append((name, text if isinstance(text, str) else text_of(*text)))
    return tuple(parts)


def refused(error, function, *handed):
    """The refusal of just this class that a function raises."""
    try:
        told = function(*handed)
    except Exception as refusal:
        if refusal.__class__ is not error:
            raise AssertionError(f"{refusal!r} is no {error.__name__}") from refusal
        return refusal
    raise AssertionError(f"told {told!r}, not refused")


def looked(design):
    """None of a right design, else (stage, module, place) or ("nested", ring)."""
    try:
        told = look(design)
    except Fault as fault:
        assert fault.__class__ is Fault
        return (fault.stage, fault.module, fault.place)
    except Nested as nested:
        assert nested.__class__ is Nested
        return ("nested", nested.ring)
    assert told is None
    return None


def looked_rows(*rows):
    """What look tells of a design of one module, without the module's name."""
    told = looked((("top", text_of(*rows)),))
    if told is None or told[0] == "nested":
        return told
    assert told[1] == "top"
    return (told[0], told[2])
