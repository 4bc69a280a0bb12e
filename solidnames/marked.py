"""Marked solids: solids whose surface has an origin at each square."""

from solidnames.axes import SIDES, axis_index, check_bounds, check_integers, mirrored_lines, moved_lines, replaced
from solidnames.errors import InvalidBox, InvalidName, NotSurface, TooMany
from solidnames.grids import block_of, boxes_of, merged, painted, spread
from solidnames.limits import LINES
from solidnames.solids import Solid
from solidnames.surfaces import box_squares, mirrored_blocks, needed_lines, new_squares, spread_surface
from solidnames.values import is_box, is_name, is_point


class Marked:
    """Blocks, filled or not, and the origins of the squares between them, as grids and surfaces tell them.

    With the lines that are needed alone, equal marked solids have equal lines and labels.
    """

    def __init__(self, coordinates, filled, squares):
        self.coordinates = needed_lines(coordinates, filled, squares)
        if max([len(line) for line in self.coordinates]) > LINES:
            raise TooMany(LINES)
        self.filled = tuple(spread(coordinates, filled, self.coordinates))
        self.squares = tuple([tuple(labels) for labels in spread_surface(coordinates, squares, self.coordinates)])

    @property
    def origins(self):
        """All origins, ascending."""
        found = [origin for labels in self.squares for origin in labels if origin is not None]
        return tuple(sorted(set(found)))

    def __eq__(self, other):
        return (isinstance(other, Marked) and self.coordinates == other.coordinates
                and self.filled == other.filled and self.squares == other.squares)

    def to_solid(self):
        boxes = boxes_of(self.coordinates, self.filled)
        return Solid(*boxes)

    def lines(self, axis):
        """The lines of the solid, and those between origins."""
        return self.coordinates[axis_index(axis)]

    def origin_of(self, cell, side):
        """The origin of the square on this side of a cell of the solid."""
        if not is_point(cell) or side not in SIDES:
            raise NotSurface(cell, side)
        axis = axis_index(side[1])
        step = 1 if side[0] == "+" else -1
        inside = block_of(self.coordinates, cell)
        outside = block_of(self.coordinates, replaced(cell, axis, cell[axis] + step))
        if not self.filled[inside] or self.filled[outside]:
            raise NotSurface(cell, side)
        return self.squares[axis][max(inside, outside)]

    def joined(self, tool):
        """All cells of both."""
        lines = merged(self.coordinates, tool.coordinates)
        filled = [one or other for one, other in zip(self._spread(lines), tool._spread(lines))]
        return self._changed(lines, filled, tool)

    def cut(self, tool):
        """The cells that are not in the tool."""
        lines = merged(self.coordinates, tool.coordinates)
        filled = [one and not other for one, other in zip(self._spread(lines), tool._spread(lines))]
        return self._changed(lines, filled, tool)

    def met(self, tool):
        """The cells that are in the tool, too."""
        lines = merged(self.coordinates, tool.coordinates)
        filled = [one and other for one, other in zip(self._spread(lines), tool._spread(lines))]
        return self._changed(lines, filled, tool)

    def _spread(self, lines):
        """For each block between other lines, among them its own, whether it has it."""
        return spread(self.coordinates, self.filled, lines)

    def _changed(self, lines, filled, tool):
        """The marked solid with these blocks, after an operation with the tool."""
        old = spread_surface(self.coordinates, self.squares, lines)
        brought = spread_surface(tool.coordinates, tool.squares, lines)
        return Marked(lines, filled, new_squares(lines, filled, old, brought))

    def moved(self, x, y, z):
        check_integers(x, y, z)
        lines = moved_lines(self.coordinates, (x, y, z))
        check_bounds(lines)
        return Marked(lines, self.filled, self.squares)

    def mirrored(self, axis, at):
        """Mirrored at the plane with this coordinate."""
        index = axis_index(axis)
        check_integers(at)
        lines = mirrored_lines(self.coordinates, index, at)
        check_bounds(lines)
        filled, squares = mirrored_blocks(self.coordinates, self.filled, self.squares, index)
        return Marked(lines, filled, squares)

    def within(self, name):
        """The same with this name and a slash in front of each origin."""
        if not is_name(name):
            raise InvalidName(name)
        return prefixed(self, f"{name}/")


def block(box, name):
    """The box; the origin of each side is the name, a slash and the side."""
    if not is_box(box):
        raise InvalidBox(box)
    if not is_name(name):
        raise InvalidName(name)
    lines, filled = painted([box])
    return Marked(lines, filled, box_squares([f"{name}/{side}" for side in SIDES]))


def prefixed(marked, prefix):
    """The same with this text in front of each origin."""
    squares = [[None if origin is None else prefix + origin for origin in labels] for labels in marked.squares]
    return Marked(marked.coordinates, marked.filled, squares)


def nothing():
    """The marked solid without cells."""
    return Marked(((), (), ()), [False], [[None], [None], [None]])
