"""The positions of sides that follow from dimensions.

A link is a tuple (index, side, other, number): by the dimension with this index, the position
of side minus that of other is the number. Other is None for the position 0.
"""

from solidnames.limits import LIMIT
from solidnames.shapes import ends_of


def reached_from(start, links):
    """From each end that is connected with the start to its position behind that of the start, and
    the indexes of the links between them."""
    found = {start: (0, ())}
    left = list(links)
    while True:
        usable = [link for link in left if link[1] in found or link[2] in found]
        if not usable:
            return found
        for index, side, other, number in usable:
            if side not in found:
                position, path = found[other]
                found[side] = (position + number, (*path, index))
            elif other not in found:
                position, path = found[side]
                found[other] = (position - number, (*path, index))
        left = [link for link in left if link not in usable]


def without_redundant(dimensions, numbers):
    """The links of the dimensions that are not redundant, and None or the first clash (path, index)."""
    links = []
    for index, (side, other, _) in enumerate(dimensions):
        found = reached_from(other, links)
        if side not in found:
            links.append((index, side, other, numbers[index]))
            continue
        position, path = found[side]
        if position != numbers[index]:
            return links, (tuple(sorted(path)), index)
    return links, None


def groups_without_zero(sides, dimensions):
    """How many groups of connected sides are not connected with 0."""
    links, _ = without_redundant(dimensions, [0 for _ in dimensions])
    # Each of these links joins two groups, of all sides and the 0 at first.
    return len(sides) - len(links)


def first_crossing(outlines, positions):
    """The first pair of sides that must not touch but do, or of one side without a length."""
    ends = ends_of(outlines, positions)
    following = {}
    for outline in outlines:
        for index, side in enumerate(outline):
            following[(outline[index - 1], side)] = True
            following[(side, outline[index - 1])] = True
    sides = sorted(ends)
    for place, one in enumerate(sides):
        if ends[one][0] == ends[one][1]:
            return (one, one)
        for other in sides[place + 1:]:
            if (one, other) not in following and have_common_point(ends[one], ends[other]):
                return (one, other)
    return None


def have_common_point(one, other):
    """Each is a level or upright segment, so a rectangle without a width."""
    (low, high), (other_low, other_high) = one, other
    return (low[0] <= other_high[0] and other_low[0] <= high[0]
            and low[1] <= other_high[1] and other_low[1] <= high[1])


def first_beyond(positions):
    """The first name whose position is beyond LIMIT, or None."""
    beyond = [name for name in sorted(positions) if abs(positions[name]) > LIMIT]
    return beyond[0] if beyond else None
