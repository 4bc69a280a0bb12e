"""Edges, where two faces meet, and corners."""

from solidnames.grids import strides
from solidnames.skins import Skin


class Edge:
    """A straight row of segments at which two faces meet with one kind."""

    def __init__(self, name, start, end, kind):
        self.name = name
        self.faces = (name[1], name[2])
        self.start = start
        self.end = end
        self.kind = kind

    def __eq__(self, other):
        return (isinstance(other, Edge) and self.name == other.name and self.start == other.start
                and self.end == other.end and self.kind == other.kind)


class Corner:
    """A point, and a fan of squares there that is divided."""

    def __init__(self, name, point):
        self.name = name
        self.faces = name[1]
        self.point = point

    def __eq__(self, other):
        return isinstance(other, Corner) and self.name == other.name and self.point == other.point


def edges(marked):
    """All edges, ascending by name."""
    return edges_of(Skin(marked))


def corners(marked):
    """All corners, ascending by name."""
    return corners_of(Skin(marked))


def edges_of(skin):
    """The edges of a skin, ascending by name."""
    alike = {}
    for low, high, start, end, kind in edge_rows(skin):
        pair = tuple(sorted([skin.names[low], skin.names[high]]))
        alike.setdefault(pair, []).append((start, end, kind))
    found = []
    for pair in sorted(alike):
        rows = sorted(alike[pair])
        found.extend([Edge(("edge", *pair, number, len(rows)), start, end, kind)
                      for number, (start, end, kind) in enumerate(rows)])
    return found


def edge_rows(skin):
    """Tuples (face, face, start, end, kind), the faces by their indexes."""
    kinds = kinds_between(skin)
    rows = []
    for axis, place, low, high in list(kinds):
        kind = kinds[(axis, place, low, high)]
        step = strides(skin.coordinates)[axis]
        if kinds.get((axis, place - step, low, high)) == kind:
            continue
        last = place + step
        while kinds.get((axis, last, low, high)) == kind:
            last = last + step
        rows.append((low, high, skin.corner_of(place), skin.corner_of(last), kind))
    return rows


def kinds_between(skin):
    """A dict from tuples (axis, place, face, face) to the kind with which the two faces meet there."""
    kinds = {}
    for axis, place, one, other, kind in skin.meetings:
        first, second = skin.owners[one], skin.owners[other]
        # Two squares of one face lie in one plane, so two faces meet in only one way at a segment.
        if first != second:
            kinds[(axis, place, min(first, second), max(first, second))] = kind
    return kinds


def corners_of(skin):
    """The corners of a skin, ascending by name."""
    alike = {}
    for met, point, cell in corner_rows(skin):
        alike.setdefault(tuple(sorted([skin.names[index] for index in met])), []).append((point, cell))
    found = []
    for met in sorted(alike):
        rows = sorted(alike[met])
        found.extend([Corner(("corner", met, number, len(rows)), point) for number, (point, _) in enumerate(rows)])
    return found


def corner_rows(skin):
    """Tuples (indexes of faces, point, place of the least cell of the fan)."""
    rows = []
    around = meetings_around(skin)
    for place in sorted(around):
        for fan in fans_of(around[place]):
            if is_corner(skin, fan, around[place]):
                met = sorted(set([skin.owners[panel] for panel in fan]))
                # At a point the blocks have the order of their cells.
                rows.append((met, skin.corner_of(place), min([skin.inside_of(panel) for panel in fan])))
    return rows


def meetings_around(skin):
    """For each point at which several faces meet, told by the block above it: tuples (axis, segment, panel, panel)."""
    around = {}
    divided = {}
    for axis, place, one, other, _ in skin.meetings:
        for point in (place, place + strides(skin.coordinates)[axis]):
            around.setdefault(point, []).append((axis, place, one, other))
            if skin.owners[one] != skin.owners[other]:
                divided[point] = True
    return {point: around[point] for point in divided}


def fans_of(meetings):
    """The panels of each fan at a point, lists."""
    fans = []
    for _, _, one, other in meetings:
        joined = [fan for fan in fans if one in fan or other in fan]
        fans = [fan for fan in fans if one not in fan and other not in fan]
        fans.append(sorted(set([one, other, *[panel for fan in joined for panel in fan]])))
    return fans


def is_corner(skin, fan, meetings):
    """Whether segments divide the fan, other than two on one straight line."""
    dividing = sorted(set([(axis, place) for axis, place, one, other in meetings
                           if one in fan and skin.owners[one] != skin.owners[other]]))
    if len(dividing) == 2:
        return dividing[0][0] != dividing[1][0]
    return bool(dividing)
