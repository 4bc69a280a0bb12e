"""Sections of marked solids, and the outlines of sections and of faces."""

from solidnames.axes import axis_index
from solidnames.errors import InvalidNumber
from solidnames.grids import strides, strip_of
from solidnames.planes import direction_indexes
from solidnames.values import is_integer, is_within
from solidnames.walks import OUTWARD, area_within, connected, length_of, outlines_of


class Section:
    """The cells with one coordinate; regions have their outlines."""

    def __init__(self, axis, at, regions):
        outlines = [outline for outer, others in regions for outline in (outer, *others)]
        self._axis = axis
        self._at = at
        self._area = sum([area_within(outline) for outline in outlines])
        self._perimeter = sum([length_of(outline) for outline in outlines])
        self.regions = regions

    @property
    def axis(self):
        return self._axis

    @property
    def at(self):
        return self._at

    @property
    def area(self):
        """The number of cells."""
        return self._area

    @property
    def perimeter(self):
        """The number of border segments."""
        return self._perimeter

    def __len__(self):
        return len(self.regions)

    def __eq__(self, other):
        return (isinstance(other, Section) and self._axis == other._axis
                and self._at == other._at and self.regions == other.regions)


def section(marked, axis, at):
    """The Section at a coordinate."""
    index = axis_index(axis)
    if not is_integer(at) or not is_within(at):
        raise InvalidNumber(at)
    return Section(axis, at, regions_in(marked, axis, strip_of(marked.coordinates[index], at)))


def profile(marked, axis):
    """Yields tuples (low, high, section) of the rows of sections with equal regions."""
    line = marked.coordinates[axis_index(axis)]
    # At each line cells or origins change, and so do the regions.
    for strip in range(1, len(line)):
        yield (line[strip - 1], line[strip], Section(axis, line[strip - 1], regions_in(marked, axis, strip)))


def face_outlines(face):
    """The outer outline of a face and the tuple of the others."""
    return face.outlines


def face_perimeter(face):
    """The number of segments at which a face meets others."""
    outer, others = face.outlines
    return sum([length_of(outline) for outline in (outer, *others)])


def regions_in(marked, axis, strip):
    """The outlines of the regions in a strip of an axis."""
    index = axis_index(axis)
    directions = direction_indexes(axis)
    lines = [marked.coordinates[direction] for direction in directions]
    steps = strides(marked.coordinates)
    places = {}
    for i in range(len(lines[0]) - 1):
        for j in range(len(lines[1]) - 1):
            # The cell with the index 0 lies in the strip 1.
            places[(i, j)] = strip * steps[index] + (i + 1) * steps[directions[0]] + (j + 1) * steps[directions[1]]
    cells = {cell: place for cell, place in places.items() if marked.filled[place]}
    regions = []
    for region in connected(cells):
        origins = {}
        for cell in region:
            for border, origin in border_origins(marked, directions, cell, cells):
                origins[border] = origin
        regions.append(outlines_of(region, lines, origins))
    return tuple(regions)


def border_origins(marked, directions, cell, cells):
    """The borders of a cell with their origins."""
    steps = strides(marked.coordinates)
    origins = []
    for side, (di, dj) in enumerate(OUTWARD):
        if (cell[0] + di, cell[1] + dj) not in cells:
            axis = directions[0] if di != 0 else directions[1]
            upper = cells[cell] + (steps[axis] if di + dj > 0 else 0)
            origins.append(((*cell, side), marked.squares[axis][upper]))
    return origins
