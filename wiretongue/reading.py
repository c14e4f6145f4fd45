"""A module's text, read to its tree."""

from wiretongue.errors import NoText
from wiretongue.shapes import DEEPEST, EXPRESSIONS, GREATEST, MOST_CLOCKS, MOST_HANDED, ROWS, WIDEST
from wiretongue.words import is_name, is_number, is_spot


class RowWords:
    """The words of a row, taken one behind the other."""

    def __init__(self, row, line):
        self.row = row
        self.words = line.split(" ")
        self.at = 0

    def here(self):
        """The place of the word that comes."""
        return (self.row, self.at)

    def more(self):
        """Whether a word comes."""
        return self.at < len(self.words)

    def coming(self):
        """The word that comes."""
        # Where the row has ended a word without signs stands in: it fits nowhere.
        return self.words[self.at] if self.more() else ""

    def take(self, fits):
        """The word that comes, where it fits."""
        if not fits:
            raise NoText(self.here())
        word = self.coming()
        self.at += 1
        return word

    def take_name(self):
        """A name."""
        return self.take(is_name(self.coming()))

    def take_number(self, least, most):
        """A number from least to most."""
        return int(self.take(is_number(self.coming(), least, most)))

    def take_end(self):
        """Nothing: the row ends here."""
        if self.more():
            raise NoText(self.here())


def read_part(words, letter, depth):
    """What a letter of a shape stands for, within so many expressions."""
    if letter == "X":
        return words.take_name()
    if letter == "W":
        return words.take_number(1, WIDEST)
    if letter == "K":
        return words.take_number(0, GREATEST)
    if letter == "A":
        return ("name", words.here(), words.take_name())
    return read_expression(words, depth + 1)


def read_expression(words, depth):
    """An expression that is the depth-th within one another."""
    place = words.here()
    word = words.coming()
    if is_spot(word):
        return ("name", place, words.take(True))
    goes_on = depth < DEEPEST or word == "num"
    words.take(word in EXPRESSIONS and goes_on)
    parts = [read_part(words, letter, depth) for letter in EXPRESSIONS[word]]
    return (word, place, *parts)


def read_use(words):
    """What stands behind the word use."""
    name = words.take_name()
    module = words.take_name()
    many = words.take_number(0, MOST_CLOCKS)
    clocks = tuple([words.take_name() for _ in range(many)])
    handed = []
    while words.more() and len(handed) < MOST_HANDED:
        handed.append(read_expression(words, 1))
    return ("use", name, module, clocks, tuple(handed))


def read_row(row, line):
    """The tree of one row."""
    words = RowWords(row, line)
    word = words.coming()
    words.take(word == "use" or word in ROWS)
    if word == "use":
        tree = read_use(words)
    else:
        parts = [read_part(words, letter, 0) for letter in ROWS[word]]
        tree = (word, *parts)
    words.take_end()
    return tree


def read_module(text):
    """The tree of a module's text; NoText of anything else."""
    if not isinstance(text, str):
        raise NoText((0, 0))
    if text == "":
        return ()
    return tuple([read_row(row, line) for row, line in enumerate(text.split("\n"))])
