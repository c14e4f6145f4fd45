"""Whether a thing is a laying of a net, and a joined paper of a flat."""

from wiretongue.gates import feeds_of
from wiretongue.netchecks import net_holds
from wiretongue.wholes import is_tuple, is_whole


def is_cell(table, thing):
    """Whether a thing is a cell of a table."""
    return is_tuple(thing, 2) and is_whole(thing[0], table[0]) and is_whole(thing[1], table[1])


def are_cells(table, thing):
    """Whether a thing is a tuple of cells of a table."""
    return isinstance(thing, tuple) and all([is_cell(table, cell) for cell in thing])


def are_neighbours(one, other):
    """Whether two cells are unlike by 1 in one of both."""
    return abs(one[0] - other[0]) + abs(one[1] - other[1]) == 1


def is_way(table, thing, start, end):
    """Whether a thing is a way from cell to cell of a table."""
    if not are_cells(table, thing) or thing == () or thing[0] != start or thing[-1] != end:
        return False
    return all([are_neighbours(one, other) for one, other in zip(thing, thing[1:])])


def are_ways(table, thing, cells, g, feeds):
    """Whether a thing is a tuple of ways to a gate, one for each of its feeds."""
    if not is_tuple(thing, len(feeds)):
        return False
    return all([is_way(table, way, cells[feed], cells[g]) for way, feed in zip(thing, feeds)])


def laid_holds(net, table, thing):
    """Whether a thing is a laying of a net on a table."""
    gates = net[0]
    if not is_tuple(thing, 2):
        return False
    cells, ways = thing
    if not are_cells(table, cells) or len(cells) != len(gates) or len(set(cells)) != len(cells):
        return False
    if not is_tuple(ways, len(gates)):
        return False
    return all([are_ways(table, ways[g], cells, g, feeds_of(gate)) for g, gate in enumerate(gates)])


def joined_holds(flat, table, thing):
    """Whether a thing is a joined paper of a flat and a table."""
    return is_tuple(thing, 2) and net_holds(flat, thing[0]) and laid_holds(thing[0], table, thing[1])
