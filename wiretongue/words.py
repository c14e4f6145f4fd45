"""Single words: names and numbers."""

LETTERS = "abcdefghijklmnopqrstuvwxyz"
FIGURES = "0123456789"
LONGEST_NAME = 6

KEPT_WORDS = (
    "clock", "in", "out", "wire", "box", "cross", "use", "num", "not", "and", "or",
    "xor", "sum", "same", "below", "pick", "join", "cut", "bit", "one",
)


def is_name(thing):
    """Whether a thing is a name of a row or a module."""
    if not isinstance(thing, str) or not 1 <= len(thing) <= LONGEST_NAME:
        return False
    return thing not in KEPT_WORDS and all([sign in LETTERS for sign in thing])


def is_spot(word):
    """Whether a word may name something in an expression: X or I.Y."""
    names = word.split(".")
    return len(names) <= 2 and all([is_name(name) for name in names])


def is_number(word, least, most):
    """Whether a word is a number from least to most, without a nought ahead."""
    # The length is asked first, since Python turns no endless word into a number.
    if not 1 <= len(word) <= len(str(most)) or not all([sign in FIGURES for sign in word]):
        return False
    return (word == "0" or word[0] != "0") and least <= int(word) <= most
