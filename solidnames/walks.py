"""Outlines of flat regions, which are walks along their borders.

A region is a list of cells (i, j) of a grid, which lie between the coordinates i and i + 1 of
direction u and j and j + 1 of direction v. The sides of a cell have the numbers 0 below, 1 on the
right, 2 above and 3 on the left: walked in this order they have the cell on their left. A border
is a tuple (i, j, side), a side of a cell of the region behind which there is none.
"""

STEPS = ((1, 0), (0, 1), (-1, 0), (0, -1))
OUTWARD = ((0, -1), (1, 0), (0, 1), (-1, 0))


def connected(cells):
    """The largest connected sets of cells, ascending lists, in the order of their least cells."""
    seen = {}
    found = []
    for start in sorted(cells):
        if start in seen:
            continue
        seen[start] = True
        group = [start]
        reached = 0
        while reached < len(group):
            i, j = group[reached]
            for cell in [(i + di, j + dj) for di, dj in STEPS]:
                if cell in cells and cell not in seen:
                    seen[cell] = True
                    group.append(cell)
            reached += 1
        found.append(sorted(group))
    return found


def outlines_of(cells, lines, origins):
    """The outer outline and the tuple of the others of a connected region.

    Lines are the coordinates of both directions, origins a dict from the borders to their origins.
    """
    inside = {cell: True for cell in cells}
    seen = {}
    found = []
    for start in sorted(origins):
        if start in seen:
            continue
        walk = [start]
        border = next_border(inside, start)
        while border != start:
            walk.append(border)
            border = next_border(inside, border)
        for border in walk:
            seen[border] = True
        found.append(outline_of(walk, lines, origins))
    # The least point of a region lies on its outer border.
    found = sorted(found)
    return (found[0], tuple(found[1:]))


def next_border(inside, border):
    """The border that a walk with the region on its left comes to."""
    i, j, side = border
    ahead = (i + STEPS[side][0], j + STEPS[side][1])
    if ahead not in inside:
        return (i, j, (side + 1) % 4)
    across = (ahead[0] + OUTWARD[side][0], ahead[1] + OUTWARD[side][1])
    if across not in inside:
        return (*ahead, side)
    return (*across, (side - 1) % 4)


def outline_of(walk, lines, origins):
    """The entries of a walk, from its least point on."""
    points = [start_of(border, lines) for border in walk]
    least = min(points)
    # At its least point a walk turns, so no row goes on there.
    first = [place for place, point in enumerate(points) if point == least][0]
    entries = []
    before = None
    for point, border in zip(points[first:] + points[:first], walk[first:] + walk[:first]):
        kind = (border[2], origins[border])
        if kind != before:
            entries.append((*point, origins[border]))
        before = kind
    return tuple(entries)


def start_of(border, lines):
    """The point at which the way along a border begins."""
    i, j, side = border
    return (lines[0][i + (side in (1, 2))], lines[1][j + (side in (2, 3))])


def length_of(outline):
    """The number of segments of an outline."""
    return sum([abs(u - other[0]) + abs(v - other[1]) for (u, v, _), other in zip(outline, turned_on(outline))])


def area_within(outline):
    """The number of cells within an outline, the negative one if the region lies outside of it."""
    return sum([u * (other[1] - v) for (u, v, _), other in zip(outline, turned_on(outline))])


def turned_on(outline):
    """For each entry the one behind it."""
    return [*outline[1:], outline[0]]
