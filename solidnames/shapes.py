"""Shapes: solved sketches, with a position for each side."""

from solidnames.errors import InvalidNumber, OutOfBounds, UnknownSide
from solidnames.values import is_integer, is_within


class Shape:
    """A region between the sides of outlines that neither cross nor touch one another."""

    def __init__(self, outlines, positions):
        self._outlines = outlines
        self._positions = {side: positions[side] for side in sorted(positions)}
        self._ends = ends_of(outlines, positions)
        self._rectangles = rectangles_of(outlines, positions)

    @property
    def positions(self):
        """The positions of the sides, ascending by side, a new dict."""
        return dict(self._positions)

    @property
    def rectangles(self):
        """The rectangles (u0, v0, u1, v1) of the region, in strips between level sides."""
        return self._rectangles

    @property
    def area(self):
        return sum([(u1 - u0) * (v1 - v0) for u0, v0, u1, v1 in self._rectangles])

    @property
    def perimeter(self):
        return sum([high[0] - low[0] + high[1] - low[1] for low, high in list(self._ends.values())])

    def __contains__(self, cell):
        if not is_flat_cell(cell):
            return False
        u, v = cell
        return any([u0 <= u < u1 and v0 <= v < v1 for u0, v0, u1, v1 in self._rectangles])

    def __eq__(self, other):
        return isinstance(other, Shape) and self._outlines == other._outlines and self._positions == other._positions

    def ends(self, side):
        """The two end points of a side, the lesser one first."""
        if not isinstance(side, str) or side not in self._ends:
            raise UnknownSide(side)
        return self._ends[side]

    def side_between(self, cell, other):
        """The side that lies between two neighbor cells, or None."""
        if not is_flat_cell(cell) or not is_flat_cell(other):
            return None
        across, along = abs(cell[0] - other[0]), abs(cell[1] - other[1])
        if across + along != 1:
            return None
        u, v = max(cell[0], other[0]), max(cell[1], other[1])
        # The segment between them is upright if they lie side by side in the direction u.
        after_u, after_v = u + along, v + across
        for side, (low, high) in self._ends.items():
            if low[0] <= u and low[1] <= v and after_u <= high[0] and after_v <= high[1]:
                return side
        return None

    def moved(self, u, v):
        """The shape with its upright sides moved by u and its level sides by v."""
        for number in (u, v):
            if not is_integer(number):
                raise InvalidNumber(number)
        positions = {}
        for outline in self._outlines:
            for index, side in enumerate(outline):
                positions[side] = self._positions[side] + (v if is_level(index) else u)
        if not all([is_within(position) for position in list(positions.values())]):
            raise OutOfBounds()
        return Shape(self._outlines, positions)


def is_flat_cell(value):
    return isinstance(value, tuple) and len(value) == 2 and is_integer(value[0]) and is_integer(value[1])


def is_level(index):
    """Whether the side with this index in an outline is level."""
    return index % 2 == 0


def ends_of(outlines, positions):
    """A dict from each side to its two end points, the lesser one first."""
    ends = {}
    for outline in outlines:
        for index, side in enumerate(outline):
            before = positions[outline[index - 1]]
            after = positions[outline[(index + 1) % len(outline)]]
            low, high, place = min(before, after), max(before, after), positions[side]
            ends[side] = ((low, place), (high, place)) if is_level(index) else ((place, low), (place, high))
    return ends


def rectangles_of(outlines, positions):
    """In each strip, each second gap between the upright sides through it is inside."""
    ends = ends_of(outlines, positions)
    levels = [positions[side] for outline in outlines for side in outline[::2]]
    uprights = [ends[side] for outline in outlines for side in outline[1::2]]
    borders = sorted(set(levels))
    found = []
    for v0, v1 in zip(borders, borders[1:]):
        crossed = sorted([low[0] for low, high in uprights if low[1] <= v0 and v1 <= high[1]])
        found.extend([(u0, v0, u1, v1) for u0, u1 in zip(crossed[::2], crossed[1::2])])
    return tuple(found)
