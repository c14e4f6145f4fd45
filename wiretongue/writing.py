"""A module's tree, written as its text."""


def part_words(part):
    """The words of one part of a row or an expression."""
    if isinstance(part, str):
        return [part]
    if isinstance(part, int):
        return [str(part)]
    if part[0] == "name":
        return [part[2]]
    return [part[0]] + parts_words(part[2:])


def parts_words(parts):
    """The words of several parts, one behind the other."""
    words = []
    for part in parts:
        words.extend(part_words(part))
    return words


def row_words(row):
    """The words of a row."""
    if row[0] == "use":
        word, name, module, clocks, handed = row
        return parts_words((word, name, module, len(clocks), *clocks, *handed))
    return parts_words(row)


def show_module(tree):
    """The text of a module's tree."""
    return "\n".join([" ".join(row_words(row)) for row in tree])
