"""What is seen in the columns along an axis.

Lines are the coordinates of the two directions across the axis. The columns of two strips, one of
each direction, see the same: columns are a dict from the pairs of strips in which something is seen
to tuples (index of the face, coordinate on the axis).
"""

from solidnames.axes import axis_index
from solidnames.grids import strides, strip_of
from solidnames.planes import direction_indexes


def columns_from(skin, side):
    """The columns of a skin, seen from a side."""
    index = axis_index(side[1])
    first, second = direction_indexes(side[1])
    steps = strides(skin.coordinates)
    strips = list(range(1, len(skin.coordinates[index])))
    if side[0] == "+":
        strips = strips[::-1]
    columns = {}
    for i in range(1, len(skin.coordinates[first])):
        for j in range(1, len(skin.coordinates[second])):
            places = [i * steps[first] + j * steps[second] + strip * steps[index] for strip in strips]
            filled = [place for place in places if skin.filled[place]]
            if filled:
                upper = filled[0] + steps[index] if side[0] == "+" else filled[0]
                panel = index * len(skin.filled) + upper
                columns[(i, j)] = (skin.owners[panel], skin.corner_of(upper)[index])
    return columns


def rectangle_of(lines, strips):
    """The rectangle (u, v, u, v) of two strips."""
    i, j = strips
    return (lines[0][i - 1], lines[1][j - 1], lines[0][i], lines[1][j])


def width_of_strips(lines, strips):
    """The number of columns in two strips."""
    low_u, low_v, high_u, high_v = rectangle_of(lines, strips)
    return (high_u - low_u) * (high_v - low_v)


def bounds_of(columns, lines):
    """The least and the greatest point of all columns, or None."""
    if not columns:
        return None
    rectangles = [rectangle_of(lines, strips) for strips in columns]
    low = (min([one[0] for one in rectangles]), min([one[1] for one in rectangles]))
    return (low, (max([one[2] for one in rectangles]), max([one[3] for one in rectangles])))


def flat(direction, along, across):
    """The pair of a number along the direction (0 for u, 1 for v) and one across it."""
    return (along, across) if direction == 0 else (across, along)


def drawn_rows(columns, lines, direction):
    """Tuples (start, end, lower, upper) of the rows of segments across the direction.

    Lower and upper are what columns have on both sides, or None.
    """
    rows = []
    line, other_line = lines[direction], lines[1 - direction]
    for strip, number in enumerate(line):
        before = None
        for other in range(1, len(other_line)):
            lower = columns.get(flat(direction, strip, other))
            upper = columns.get(flat(direction, strip + 1, other))
            start = flat(direction, number, other_line[other - 1])
            if lower != upper:
                if (lower, upper) == before:
                    start = rows.pop()[0]
                rows.append((start, flat(direction, number, other_line[other]), lower, upper))
            before = (lower, upper)
    return rows


def seen_along(columns, lines, direction, ends, across, at):
    """For each strip of an edge along the direction, whether it is seen.

    The edge has the coordinate across in the other direction, and the coordinate at on the axis.
    """
    upper = strip_of(lines[1 - direction], across)
    flags = []
    for strip in range(strip_of(lines[direction], ends[0]), strip_of(lines[direction], ends[1])):
        beside = [columns.get(flat(direction, strip, other)) for other in (upper - 1, upper)]
        flags.append(any([told is not None and told[1] == at for told in beside]))
    return flags
