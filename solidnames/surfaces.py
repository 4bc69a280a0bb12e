"""The surface of blocks: for each axis, the origins of the squares along it (see grids).

The origin of a square is None where the blocks on its two sides are both filled or both not.
"""

from solidnames.axes import replaced
from solidnames.grids import all_places, below, differing, gathered, spread_squares, strides


def needed_lines(lines, filled, squares):
    """The lines of the surface, and those between squares of different origins."""
    kept = []
    for axis, line in enumerate(lines):
        # Squares along the axis itself have a line of the surface, all of them.
        fields = [filled, *[squares[other] for other in (0, 1, 2) if other != axis]]
        flags = [differing(lines, labels, axis) for labels in fields]
        kept.append(tuple([number for index, number in enumerate(line) if any([flag[index] for flag in flags])]))
    return tuple(kept)


def spread_surface(lines, squares, finer):
    """The origins between the blocks between other lines."""
    return [spread_squares(lines, squares[axis], axis, finer) for axis in (0, 1, 2)]


def new_squares(lines, filled, old, tool):
    """The origins on the surface of these blocks: the old ones where there are some, else those of the tool."""
    squares = []
    for axis, stride in enumerate(strides(lines)):
        lower = below(filled, stride)
        squares.append([first_origin(one != other, first, second)
                        for one, other, first, second in zip(filled, lower, old[axis], tool[axis])])
    return squares


def first_origin(is_surface, old, tool):
    if not is_surface:
        return None
    return tool if old is None else old


def mirrored_blocks(lines, filled, squares, index):
    """The labels when the axis with this index is turned around."""
    places = all_places(lines)
    turned = replaced(places, index, places[index][::-1])
    # A square stands at the block above it, which was the one below it.
    shifted = replaced(places, index, [0, *places[index][:0:-1]])
    mirrored = [gathered(squares[axis], shifted if axis == index else turned) for axis in (0, 1, 2)]
    return gathered(filled, turned), mirrored


def box_squares(names):
    """The surface of the only inner block between two lines on each axis; names has those of its sides.

    There are three strips on each axis, and the box is the middle one on all.
    """
    squares = []
    for axis in (0, 1, 2):
        low, high = names[2 * axis], names[2 * axis + 1]
        labels = []
        for x in (0, 1, 2):
            for y in (0, 1, 2):
                for z in (0, 1, 2):
                    labels.append(box_label((x, y, z), axis, low, high))
        squares.append(labels)
    return squares


def box_label(block, axis, low, high):
    if any([block[other] != 1 for other in (0, 1, 2) if other != axis]):
        return None
    return (None, low, high)[block[axis]]
