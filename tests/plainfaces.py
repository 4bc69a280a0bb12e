"""Faces, edges and corners of plain cells, segment by segment, to compare with."""

from tests.cells import STEPS, beside
from tests.helpers import AXES, SIDES


def lowest(square):
    """The least point of a square (cell, side)."""
    cell, side = square
    index = AXES.index(side[1])
    return tuple(number + (k == index and side[0] == "+") for k, number in enumerate(cell))


def step(point, axis, many=1):
    return tuple(number + many * (name == axis) for number, name in zip(point, AXES))


def segments_of(square):
    """Tuples (lower point, axis)."""
    low = lowest(square)
    one, other = [axis for axis in AXES if axis != square[1][1]]
    return [(low, one), (step(low, other), one), (low, other), (step(low, one), other)]


def cells_around(segment):
    """The four cells around it, in their order around."""
    point, axis = segment
    one, other = [name for name in AXES if name != axis]
    return [point, step(point, one, -1), step(step(point, one, -1), other, -1), step(point, other, -1)]


def meetings_at(surface, segment):
    """Triples (square, square, kind)."""
    around = cells_around(segment)
    full = [cell in surface.cells for cell in around]
    squares = [(cell, side) for cell in around if cell in surface.cells for side in SIDES
               if beside(cell, side) in around and beside(cell, side) not in surface.cells]
    if sum(full) == 1:
        return [(*squares, "out")]
    if sum(full) == 2 and full[0] != full[2]:
        return [(*squares, "seam")]
    if sum(full) == 2:
        return [tuple(one for one in squares if one[0] == cell) + ("out",) for cell in around if cell in surface.cells]
    return [(*squares, "in")] if sum(full) == 3 else []


def components(items, links):
    """Sets of items that are connected by pairs."""
    groups = {item: {item} for item in items}
    for one, other in links:
        if groups[one] is not groups[other]:
            groups[one] |= groups[other]
            for item in groups[other]:
                groups[item] = groups[one]
    return list({id(group): group for group in groups.values()}.values())


class Plain:
    """All that is told of the surface of plain cells."""

    def __init__(self, surface):
        self.surface = surface
        segments = {segment for square in surface.origins for segment in segments_of(square)}
        self.meetings = {segment: meetings_at(surface, segment) for segment in sorted(segments)}
        self.links = [(segment, *meeting) for segment, found in self.meetings.items() for meeting in found]
        self.faces = components(surface.origins, [
            (one, other) for _, one, other, _ in self.links
            if surface.origins[one] == surface.origins[other] and one[1] == other[1]])
        self.face_of = {square: index for index, face in enumerate(self.faces) for square in face}
        self.names = self.named()

    def origin(self, index):
        return self.surface.origins[next(iter(self.faces[index]))]

    def side(self, index):
        return next(iter(self.faces[index]))[1]

    def least(self, index):
        return min(map(lowest, self.faces[index]))

    def around(self, index):
        met = set()
        for _, one, other, _ in self.links:
            pair = [self.face_of[one], self.face_of[other]]
            if index in pair and pair[0] != pair[1]:
                met.add(self.origin(sum(pair) - index))
        return tuple(sorted(met))

    def named(self):
        keys = [(self.origin(index), self.around(index)) for index in range(len(self.faces))]
        names = []
        for index, key in enumerate(keys):
            same = sorted((k for k, other in enumerate(keys) if other == key),
                          key=lambda k: (self.least(k), SIDES.index(self.side(k))))
            names.append(("face", *key, same.index(index), len(same)))
        return names

    def edges(self):
        """Tuples (name, start, end, kind), ascending by name."""
        rows = {}
        for (point, axis), one, other, kind in self.links:
            pair = frozenset([self.face_of[one], self.face_of[other]])
            if len(pair) == 2:
                line = tuple(number for number, name in zip(point, AXES) if name != axis)
                rows.setdefault((axis, line, pair, kind), set()).add(point)
        found = {}
        for (axis, _, pair, kind), points in rows.items():
            for start in points:
                if step(start, axis, -1) not in points:
                    end = start
                    while end in points:
                        end = step(end, axis)
                    names = tuple(sorted(self.names[index] for index in pair))
                    found.setdefault(names, []).append((start, end, kind))
        return sorted((("edge", *names, number, len(rows)), *row)
                      for names, rows in found.items() for number, row in enumerate(sorted(rows)))

    def corners(self):
        """Tuples (name, point), ascending by name."""
        points = {}
        for segment, one, other, _ in self.links:
            for point in (segment[0], step(*segment)):
                points.setdefault(point, []).append((segment, one, other))
        found = {}
        for point, links in points.items():
            squares = {square for _, one, other in links for square in (one, other)}
            for fan in components(squares, [(one, other) for _, one, other in links]):
                dividing = {segment for segment, one, other in links
                            if one in fan and self.face_of[one] != self.face_of[other]}
                if dividing and not (len(dividing) == 2 and len({axis for _, axis in dividing}) == 1):
                    names = tuple(sorted({self.names[self.face_of[square]] for square in fan}))
                    found.setdefault(names, []).append((point, min(cell for cell, _ in fan)))
        return sorted((("corner", names, number, len(rows)), point)
                      for names, rows in found.items() for number, (point, _) in enumerate(sorted(rows)))


def agree(test, marked, surface):
    """All faces, edges and corners of a marked solid are those of plain cells."""
    from solidnames.edges import corners, edges
    from solidnames.faces import faces
    from solidnames.names import names
    from tests.cells import solid_of
    plain = Plain(surface)
    order = sorted(range(len(plain.faces)), key=lambda index: plain.names[index])
    made = faces(marked)
    test.assertEqual([face.name for face in made], [plain.names[index] for index in order])
    for face, index in zip(made, order):
        test.assertEqual(face.name, ("face", face.origin, face.around, face.number, face.many))
        test.assertEqual([face.side, face.least, face.area], [plain.side(index), plain.least(index), len(plain.faces[index])])
        test.assertEqual(face.at, face.least[AXES.index(face.side[1])])
        test.assertEqual(face.layer, solid_of({cell for cell, _ in plain.faces[index]}))
    found = [(edge.name, edge.start, edge.end, edge.kind) for edge in edges(marked)]
    test.assertEqual(found, plain.edges())
    test.assertEqual([edge.faces for edge in edges(marked)], [edge[0][1:3] for edge in plain.edges()])
    found = [(corner.name, corner.point) for corner in corners(marked)]
    test.assertEqual(found, plain.corners())
    test.assertEqual([corner.faces for corner in corners(marked)], [corner[0][1] for corner in plain.corners()])
    test.assertEqual(names(marked), [plain.names[index] for index in order] + [edge[0] for edge in plain.edges()]
                     + [corner[0] for corner in plain.corners()])
    return plain
