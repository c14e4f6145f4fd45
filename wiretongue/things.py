"""Things of tuples, whole numbers, texts and None, written as texts and read."""

from wiretongue.errors import NoText
from wiretongue.words import FIGURES

MOST_FIGURES = 4000


def word_of(part):
    """The word of what is no tuple."""
    if part is None:
        return "none"
    return "'" + part if isinstance(part, str) else str(part)


def show_thing(thing):
    """The text of a thing."""
    words = []
    # What comes is (part, False), or (word, True) of what is a word by now.
    coming = [(thing, False)]
    while coming:
        part, is_word = coming.pop()
        if is_word:
            words.append(part)
        elif isinstance(part, tuple):
            words.append("(")
            coming.append((")", True))
            coming.extend([(inner, False) for inner in part[::-1]])
        else:
            words.append(word_of(part))
    return " ".join(words)


def is_shown_number(word):
    """Whether a word is a whole number as it is written."""
    figures = word[1:] if word.startswith("-") else word
    if not 1 <= len(figures) <= MOST_FIGURES or not all([sign in FIGURES for sign in figures]):
        return False
    # Nought alone begins with a nought, and none is below it.
    return figures[0] != "0" or word == "0"


def is_shown_text(word):
    """Whether a word is a text as it is written."""
    return word.startswith("'") and len(word) > 1 and all(["!" <= sign <= "~" for sign in word])


def read_word(word, k):
    """What is no tuple, of its word, the k-th of its text."""
    if word == "none":
        return None
    if is_shown_text(word):
        return word[1:]
    if not is_shown_number(word):
        raise NoText((0, k))
    return int(word)


def read_thing(text):
    """The thing of a text; NoText of anything else."""
    if not isinstance(text, str):
        raise NoText((0, 0))
    words = text.split(" ")
    # The parts of each tuple that hasn't ended; the thing itself stands in the first.
    parts = [[]]
    for k, word in enumerate(words):
        if parts[0] or (word == ")" and len(parts) == 1):
            raise NoText((0, k))
        if word == "(":
            parts.append([])
        elif word == ")":
            told = tuple(parts.pop())
            parts[-1].append(told)
        else:
            parts[-1].append(read_word(word, k))
    if len(parts) > 1:
        raise NoText((0, len(words)))
    return parts[0][0]
