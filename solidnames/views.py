"""Views of marked solids from one side."""

from solidnames.axes import SIDES, axis_index, check_integers
from solidnames.columns import bounds_of, columns_from, drawn_rows, rectangle_of, seen_along, width_of_strips
from solidnames.edges import edges_of
from solidnames.errors import InvalidSide, UnknownName
from solidnames.grids import strip_of
from solidnames.names import has_bool
from solidnames.planes import direction_indexes
from solidnames.skins import Skin


class View:
    """What is seen from a side, told by columns along its axis."""

    def __init__(self, marked, side):
        if side not in SIDES:
            raise InvalidSide(side)
        self.side = side
        self._marked = marked
        self._skin = Skin(marked)
        self._directions = direction_indexes(side[1])
        self._lines = tuple([marked.coordinates[direction] for direction in self._directions])
        self._columns = columns_from(self._skin, side)
        self.faces = tuple(sorted(set([self._skin.names[face] for face, _ in list(self._columns.values())])))
        self.shadow = sum([width_of_strips(self._lines, strips) for strips in self._columns])
        self._bounds = bounds_of(self._columns, self._lines)

    @property
    def bounds(self):
        """The least rectangle that has all columns in which something is seen, or None."""
        return self._bounds

    def __eq__(self, other):
        return isinstance(other, View) and self._marked == other._marked and self.side == other.side

    def seen(self, u, v):
        """The name and the coordinate of what is seen in a column, or None."""
        check_integers(u, v)
        told = self._columns.get((strip_of(self._lines[0], u), strip_of(self._lines[1], v)))
        return None if told is None else (self._skin.names[told[0]], told[1])

    def seen_area(self, name):
        """In how many columns a face is seen."""
        face = face_named(self._skin, name)
        if face is None:
            raise UnknownName(name)
        return sum([width_of_strips(self._lines, strips) for strips in self._strips_with(face)])

    def state_of(self, name):
        """How much of a face or an edge is seen, a word."""
        face = face_named(self._skin, name)
        if face is not None:
            return self._state_of_face(face)
        edge = edge_named(self._skin, name)
        if edge is not None:
            return self._state_of_edge(edge)
        raise UnknownName(name)

    def drawing(self):
        """The lines (start, end, lower, upper, kind) between different faces that are seen side by side."""
        rows = drawn_rows(self._columns, self._lines, 0) + drawn_rows(self._columns, self._lines, 1)
        return [(start, end, self._name_seen(lower), self._name_seen(upper), kind_between(lower, upper))
                for start, end, lower, upper in sorted(rows, key=lambda row: row[:2])]

    def walk(self):
        """Yields rectangles (u, v, u, v, name) that have all columns in which something is seen."""
        for strips in sorted(self._columns):
            face, _ = self._columns[strips]
            rectangle = rectangle_of(self._lines, strips)
            yield (*rectangle, self._skin.names[face])

    def _name_seen(self, told):
        return None if told is None else self._skin.names[told[0]]

    def _strips_with(self, face):
        return [strips for strips in self._columns if self._columns[strips][0] == face]

    def _state_of_face(self, face):
        panels = self._skin.groups[face]
        side = self._skin.side_of(panels[0])
        if side != self.side:
            return "back" if side[1] == self.side[1] else "end"
        # A face lies in one plane, so each of its panels has two strips of its own.
        return state_told(len(self._strips_with(face)), len(panels))

    def _state_of_edge(self, edge):
        index = axis_index(self.side[1])
        if edge.start[index] != edge.end[index]:
            return "end"
        first, second = self._directions
        direction = 0 if edge.start[first] != edge.end[first] else 1
        along, across = (first, second) if direction == 0 else (second, first)
        flags = seen_along(self._columns, self._lines, direction, (edge.start[along], edge.end[along]),
                           edge.start[across], edge.start[index])
        return state_told(len([flag for flag in flags if flag]), len(flags))


def face_named(skin, name):
    """The index of the face with this name, None for any other value."""
    if has_bool(name):
        return None
    found = [index for index, other in enumerate(skin.names) if other == name]
    return found[0] if found else None


def edge_named(skin, name):
    """The Edge with this name, None for any other value."""
    if has_bool(name):
        return None
    found = [edge for edge in edges_of(skin) if edge.name == name]
    return found[0] if found else None


def state_told(seen, many):
    """The state of what has so many pieces, so many of which are seen."""
    if seen == 0:
        return "hidden"
    return "whole" if seen == many else "part"


def kind_between(lower, upper):
    """The kind of a line between what is seen on both sides, None for nothing."""
    if lower is None or upper is None:
        return "outline"
    return "seam" if lower[1] == upper[1] else "step"
