"""Space, cut into blocks by coordinates on each axis.

Lines are three ascending tuples of coordinates, one for each axis. They cut an axis into strips:
the strip 0 lies below all coordinates, the strip i + 1 begins at the coordinate with the index i.
A block is one strip on each axis. Labels are flat lists or tuples with an item for each block, in
the order of (x, y, z). Labels of squares along an axis have at the place of a block that of the
square between it and the block below it along this axis.

Places are three lists of numbers, one for each axis: each sum of one number of each list is the
place of a block in flat labels.
"""


def strides(lines):
    """How far apart two blocks, one behind the other along an axis, stand in flat labels."""
    depth = len(lines[2]) + 1
    return ((len(lines[1]) + 1) * depth, depth, 1)


def strip_of(coordinates, number):
    """The strip that has the cells with this coordinate."""
    return len([line for line in coordinates if line <= number])


def strips_at(lines, place):
    """The strip on each axis of the block at this place."""
    across, depth, _ = strides(lines)
    return (place // across, place % across // depth, place % depth)


def corner_at(lines, place):
    """The least point of the block at this place, which is no block of a strip 0."""
    return tuple([line[strip - 1] for line, strip in zip(lines, strips_at(lines, place))])


def block_of(lines, cell):
    """The place of the block that has the cell."""
    places = [strip_of(lines[axis], cell[axis]) * stride for axis, stride in enumerate(strides(lines))]
    return sum(places)


def all_places(lines):
    """The places of all blocks."""
    return [[strip * stride for strip in range(len(line) + 1)] for line, stride in zip(lines, strides(lines))]


def gathered(labels, places):
    """The labels at these places, flat."""
    return [labels[x + y + z] for x in places[0] for y in places[1] for z in places[2]]


def merged(one, other):
    """The lines that are in one or other."""
    return tuple([tuple(sorted(set(first + second))) for first, second in zip(one, other)])


def spread_places(lines, finer):
    """For the blocks between other lines, the places of the blocks that have their first cells."""
    places = []
    for line, wanted, stride in zip(lines, finer, strides(lines)):
        places.append([0] + [strip_of(line, number) * stride for number in wanted])
    return places


def spread(lines, labels, finer):
    """The labels of the blocks between other lines."""
    return gathered(labels, spread_places(lines, finer))


def spread_squares(lines, labels, axis, finer):
    """The labels of the squares along the axis between the blocks between other lines."""
    places = list(spread_places(lines, finer))
    # Where no line was, there is no label; below the strip 0 there is none either.
    known = [number in lines[axis] for number in finer[axis]]
    places[axis] = [0] + [place if there else 0 for place, there in zip(places[axis][1:], known)]
    return gathered(labels, places)


def differing(lines, labels, axis):
    """For each coordinate of the axis, whether the labels on its two sides differ."""
    places = all_places(lines)
    slabs = []
    for place in places[axis]:
        at_place = [[place] if other == axis else places[other] for other in (0, 1, 2)]
        slabs.append(gathered(labels, at_place))
    return [one != other for one, other in zip(slabs, slabs[1:])]


def below(labels, stride):
    """The labels of the blocks below along an axis, in the places of those above.

    Those of the strip 0 get labels from the other end, which are those of empty space, too.
    """
    return labels[-stride:] + labels[:-stride]


def groups(lines, wanted):
    """The largest connected sets of blocks that are wanted: lists of places, each ascending, by the first ones.

    A way that leaves the outermost blocks goes on at other outermost ones. It joins nothing: either none
    of these blocks are wanted, or all are, and then they are connected.
    """
    seen = [not flag for flag in wanted]
    steps = [step for stride in strides(lines) for step in (-stride, stride)]
    found = []
    for start in range(len(wanted)):
        if seen[start]:
            continue
        seen[start] = True
        group = [start]
        reached = 0
        while reached < len(group):
            for place in [group[reached] + step for step in steps]:
                if 0 <= place < len(seen) and not seen[place]:
                    seen[place] = True
                    group.append(place)
            reached += 1
        found.append(sorted(group))
    return found


def boxes_at(lines, places):
    """The boxes of blocks at ascending places, none of them an outermost one; joined along z."""
    boxes = []
    index = 0
    while index < len(places):
        first = last = places[index]
        # Between rows of inner blocks lie outermost ones, so blocks that follow are in one row.
        while index + 1 < len(places) and places[index + 1] == last + 1:
            index, last = index + 1, last + 1
        index += 1
        x, y, z = strips_at(lines, first)
        boxes.append((corner_at(lines, first), (lines[0][x], lines[1][y], lines[2][z + last - first])))
    return boxes


def boxes_of(lines, filled):
    """The boxes of all filled blocks."""
    return boxes_at(lines, [place for place, flag in enumerate(filled) if flag])


def painted(boxes):
    """The lines of the corners of boxes, and for each block whether a box has it."""
    lines = tuple([tuple(sorted(set([corner[axis] for box in boxes for corner in box]))) for axis in (0, 1, 2)])
    strips = [{number: index + 1 for index, number in enumerate(line)} for line in lines]
    across, depth, _ = strides(lines)
    filled = [False for _ in range((len(lines[0]) + 1) * across)]
    for low, high in boxes:
        begin = [strips[axis][low[axis]] for axis in (0, 1, 2)]
        end = [strips[axis][high[axis]] for axis in (0, 1, 2)]
        row = [True for _ in range(begin[2], end[2])]
        for x in range(begin[0], end[0]):
            for y in range(begin[1], end[1]):
                start = x * across + y * depth
                filled[start + begin[2]:start + end[2]] = row
    return lines, filled


def simplified(lines, filled):
    """The same cells with only those lines that the surface has."""
    kept = []
    for axis in (0, 1, 2):
        needed = differing(lines, filled, axis)
        kept.append(tuple([number for number, flag in zip(lines[axis], needed) if flag]))
    return tuple(kept), tuple(spread(lines, filled, kept))


def square_areas(lines, axis):
    """The areas of the squares along the axis, 0 in the outermost strips of the others."""
    widths = [[1 for _ in range(len(line) + 1)] if other == axis else lengths(line) for other, line in enumerate(lines)]
    return [x * y * z for x in widths[0] for y in widths[1] for z in widths[2]]


def surface_area(lines, filled):
    """The area between filled blocks and others."""
    total = 0
    for axis, stride in enumerate(strides(lines)):
        areas = square_areas(lines, axis)
        total = total + sum([area for area, one, other in zip(areas, filled, below(filled, stride)) if one != other])
    return total


def lengths(line):
    """The lengths of the strips, 0 for the outermost ones."""
    if not line:
        return [0]
    return [0, *[high - low for low, high in zip(line, line[1:])], 0]
