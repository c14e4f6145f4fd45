"""A net laid on a table of cells."""

from wiretongue.errors import NoRoom
from wiretongue.gates import feeds_of


def steps_between(start, end):
    """The numbers behind one, to another one that is no further."""
    if start < end:
        return list(range(start + 1, end + 1))
    return list(range(start - 1, end - 1, -1))


def way_between(start, end):
    """A shortest way from cell to cell: along the row first, then along the column."""
    along = [(start[0], column) for column in steps_between(start[1], end[1])]
    across = [(row, end[1]) for row in steps_between(start[0], end[0])]
    return (start, *along, *across)


def laid(net, table):
    """A laying of a net on a table, each way as short as can be; or NoRoom."""
    gates = net[0]
    rows, columns = table
    if rows * columns < len(gates):
        raise NoRoom(len(gates))
    cells = tuple([divmod(g, columns) for g in range(len(gates))])
    ways = [tuple([way_between(cells[feed], cells[g]) for feed in feeds_of(gate)]) for g, gate in enumerate(gates)]
    return (cells, tuple(ways))
