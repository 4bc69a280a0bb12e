"""Planes, and prisms that stand on them."""

from solidnames.axes import AXES, axis_index
from solidnames.errors import InvalidFront, InvalidName, InvalidNumber, OutOfBounds
from solidnames.marked import Marked
from solidnames.values import is_integer, is_name, is_within


class Plane:
    """A plane across an axis, with a front: 1 towards greater coordinates, else -1."""

    def __init__(self, axis, at, front=1):
        axis_index(axis)
        if not is_integer(at) or not is_within(at):
            raise InvalidNumber(at)
        if not is_integer(front) or front not in (1, -1):
            raise InvalidFront(front)
        self._axis = axis
        self._at = at
        self._front = front

    @property
    def axis(self):
        return self._axis

    @property
    def at(self):
        return self._at

    @property
    def front(self):
        return self._front

    @property
    def directions(self):
        """The two axes of the plane, whichever its front is."""
        first, second = direction_indexes(self._axis)
        return (AXES[first], AXES[second])

    def __eq__(self, other):
        return (isinstance(other, Plane) and self._axis == other._axis
                and self._at == other._at and self._front == other._front)

    def __neg__(self):
        return Plane(self._axis, self._at, -self._front)

    def __add__(self, number):
        if not is_integer(number):
            raise InvalidNumber(number)
        at = self._at + self._front * number
        if not is_within(at):
            raise OutOfBounds()
        return Plane(self._axis, at, self._front)

    def point_at(self, u, v):
        """The point of the plane with these coordinates in its directions."""
        first, second = direction_indexes(self._axis)
        point = [self._at, self._at, self._at]
        point[first], point[second] = u, v
        return tuple(point)


def direction_indexes(axis):
    """The places in a point of the two directions of a plane across the axis."""
    index = axis_index(axis)
    return ((index + 1) % 3, (index + 2) % 3)


def prism(plane, shape, distance, name):
    """The marked solid over a shape, from the plane to the one so far in front of it."""
    if not is_integer(distance) or distance == 0:
        raise InvalidNumber(distance)
    if not is_name(name):
        raise InvalidName(name)
    start = plane.at
    end = start + plane.front * distance
    if not is_within(end):
        raise OutOfBounds()
    caps = [None, f"{name}/start", f"{name}/end"] if start < end else [None, f"{name}/end", f"{name}/start"]
    return prism_between(plane.axis, shape, (min(start, end), max(start, end)), caps, f"{name}/side/")


def prism_between(axis, shape, ends, caps, side_prefix):
    """The prism over a shape between two coordinates, or without an end if ends is empty.

    Caps has the origin at the lower end of each of the strips along the axis.
    """
    index = axis_index(axis)
    inner = 1 if ends else 0
    first, second = direction_indexes(axis)
    breaks = breaks_of(shape)
    lines = [ends, ends, ends]
    lines[first], lines[second] = breaks
    inside, uprights, levels = flat_labels(shape, breaks, side_prefix)
    filled, squares = [], [[], [], []]
    for x in range(len(lines[0]) + 1):
        for y in range(len(lines[1]) + 1):
            for z in range(len(lines[2]) + 1):
                strips = (x, y, z)
                flat, strip = (strips[first], strips[second]), strips[index]
                filled.append(strip == inner and inside[flat])
                squares[index].append(caps[strip] if inside[flat] else None)
                squares[first].append(uprights[flat] if strip == inner else None)
                squares[second].append(levels[flat] if strip == inner else None)
    return Marked(tuple(lines), filled, squares)


def breaks_of(shape):
    """The positions of upright and those of level sides, ascending."""
    points = [point for side in list(shape.positions) for point in shape.ends(side)]
    return (tuple(sorted(set([point[0] for point in points]))), tuple(sorted(set([point[1] for point in points]))))


def flat_labels(shape, breaks, side_prefix):
    """For each pair of strips: whether it is inside, and the origins of the sides below it in both directions."""
    inside, uprights, levels = {}, {}, {}
    # One cell of each strip tells all of it.
    for across, u in enumerate([breaks[0][0] - 1, *breaks[0]]):
        for along, v in enumerate([breaks[1][0] - 1, *breaks[1]]):
            inside[(across, along)] = (u, v) in shape
            uprights[(across, along)] = origin_between(shape, (u - 1, v), (u, v), side_prefix)
            levels[(across, along)] = origin_between(shape, (u, v - 1), (u, v), side_prefix)
    return inside, uprights, levels


def origin_between(shape, cell, other, side_prefix):
    side = shape.side_between(cell, other)
    return None if side is None else f"{side_prefix}{side}"
