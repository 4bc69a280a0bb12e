"""Two solids, marked or not, on the blocks between the lines of both."""

from solidnames.errors import Overlapping
from solidnames.grids import corner_at, merged, spread


def blocks_of_both(one, other):
    """The lines of both, and for each block between them whether one has it, and whether other has it."""
    lines = merged(one.coordinates, other.coordinates)
    return lines, spread(one.coordinates, one.filled, lines), spread(other.coordinates, other.filled, lines)


def common_cell(lines, first, second):
    """The least cell that is in blocks of both, or None."""
    # Blocks have the order of their least cells.
    for place, both in enumerate(zip(first, second)):
        if all(both):
            return corner_at(lines, place)
    return None


def blocks_apart(one, other):
    """The blocks of both, which have no cell in common."""
    lines, first, second = blocks_of_both(one, other)
    cell = common_cell(lines, first, second)
    if cell is not None:
        raise Overlapping(cell)
    return lines, first, second
