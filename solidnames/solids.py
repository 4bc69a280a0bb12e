"""Solids: finite sets of cells."""

from solidnames.axes import axis_index, check_bounds, check_integers, mirrored_lines, moved_lines, replaced
from solidnames.errors import InvalidBox, TooMany
from solidnames.grids import block_of, boxes_at, boxes_of, groups, merged, painted, simplified, spread, surface_area
from solidnames.limits import LINES
from solidnames.values import is_box, is_point


class Solid:
    """The cells of all boxes together, as blocks between coordinates that are filled or not (see grids)."""

    def __init__(self, *boxes):
        for box in boxes:
            if not is_box(box):
                raise InvalidBox(box)
        lines, filled = painted(boxes)
        # With the lines of the surface alone, equal solids have equal lines and blocks.
        self.coordinates, self.filled = simplified(lines, filled)
        if max([len(line) for line in self.coordinates]) > LINES:
            raise TooMany(LINES)
        self._boxes = tuple(boxes_of(self.coordinates, self.filled))

    @property
    def volume(self):
        """The number of cells."""
        return sum([(high[0] - low[0]) * (high[1] - low[1]) * (high[2] - low[2]) for low, high in self._boxes])

    @property
    def area(self):
        """The number of pairs of a cell and a neighbor outside."""
        return surface_area(self.coordinates, self.filled)

    @property
    def bounds(self):
        """The least box that has all cells, None without cells."""
        if not self._boxes:
            return None
        return (tuple([line[0] for line in self.coordinates]), tuple([line[-1] for line in self.coordinates]))

    def __bool__(self):
        return bool(self._boxes)

    def __contains__(self, cell):
        return is_point(cell) and self.filled[block_of(self.coordinates, cell)]

    def __eq__(self, other):
        return isinstance(other, Solid) and self.coordinates == other.coordinates and self.filled == other.filled

    def __or__(self, other):
        lines = merged(self.coordinates, other.coordinates)
        filled = [one or another for one, another in zip(self._spread(lines), other._spread(lines))]
        boxes = boxes_of(lines, filled)
        return Solid(*boxes)

    def __sub__(self, other):
        lines = merged(self.coordinates, other.coordinates)
        filled = [one and not another for one, another in zip(self._spread(lines), other._spread(lines))]
        boxes = boxes_of(lines, filled)
        return Solid(*boxes)

    def __and__(self, other):
        lines = merged(self.coordinates, other.coordinates)
        filled = [one and another for one, another in zip(self._spread(lines), other._spread(lines))]
        boxes = boxes_of(lines, filled)
        return Solid(*boxes)

    def _spread(self, lines):
        """For each block between other lines, among them its own, whether it has it."""
        return spread(self.coordinates, self.filled, lines)

    def lines(self, axis):
        """The coordinates at which the surface has squares across the axis."""
        return self.coordinates[axis_index(axis)]

    def boxes(self):
        """Boxes without common cells that have all cells."""
        return list(self._boxes)

    def bodies(self):
        """The bodies as Solids, by their least cells."""
        return self._parts(groups(self.coordinates, self.filled))

    def hollows(self):
        """The finite bodies outside as Solids, by their least cells."""
        outside = groups(self.coordinates, [not flag for flag in self.filled])
        # The first one has the outermost blocks.
        return self._parts(outside[1:])

    def _parts(self, parts):
        """The Solids of lists of places of blocks."""
        solids = []
        for places in parts:
            boxes = boxes_at(self.coordinates, places)
            solids.append(Solid(*boxes))
        return solids

    def moved(self, x, y, z):
        check_integers(x, y, z)
        check_bounds(moved_lines(self.coordinates, (x, y, z)))
        boxes = [((low[0] + x, low[1] + y, low[2] + z), (high[0] + x, high[1] + y, high[2] + z))
                 for low, high in self._boxes]
        return Solid(*boxes)

    def mirrored(self, axis, at):
        """Mirrored at the plane with this coordinate."""
        index = axis_index(axis)
        check_integers(at)
        check_bounds(mirrored_lines(self.coordinates, index, at))
        boxes = [(replaced(low, index, 2 * at - high[index]), replaced(high, index, 2 * at - low[index]))
                 for low, high in self._boxes]
        return Solid(*boxes)

    def split(self, axis, at):
        """The solids below and above the plane with this coordinate."""
        index = axis_index(axis)
        check_integers(at)
        lower = [(low, replaced(high, index, min(high[index], at))) for low, high in self._boxes if low[index] < at]
        upper = [(replaced(low, index, max(low[index], at)), high) for low, high in self._boxes if at < high[index]]
        return (Solid(*lower), Solid(*upper))
