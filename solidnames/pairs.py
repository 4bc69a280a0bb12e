"""Two solids: where they lie on one another, how far apart they are, and how far one can be moved."""

from solidnames.axes import SIDES, axis_index
from solidnames.errors import InvalidSide, NoCells
from solidnames.grids import all_places, spread_squares, square_areas
from solidnames.overlaps import blocks_apart, blocks_of_both, common_cell
from solidnames.skins import Skin
from solidnames.values import is_integer, is_point


def contact(one, other):
    """Tuples (name, name, count) of the faces of two marked solids that lie on one another, ascending."""
    lines, _, _ = blocks_apart(one, other)
    skin, other_skin = Skin(one), Skin(other)
    counts = {}
    for axis in (0, 1, 2):
        owners, other_owners = owners_between(skin, axis, lines), owners_between(other_skin, axis, lines)
        for area, face, other_face in zip(square_areas(lines, axis), owners, other_owners):
            # Without common cells, what both have here are squares whose cells lie on different sides.
            if face is not None and other_face is not None:
                counts[(face, other_face)] = counts.get((face, other_face), 0) + area
    return sorted([(skin.names[face], other_skin.names[other_face], count)
                   for (face, other_face), count in counts.items()])


def owners_between(skin, axis, lines):
    """For the squares along the axis between other lines, the index of the face that has them, or None."""
    many = len(skin.filled)
    owners = [skin.owners.get(axis * many + place) for place in range(many)]
    return spread_squares(skin.coordinates, owners, axis, lines)


def distance(one, other):
    """("overlap", cell), or ("apart", square, point, point) with two points at the least distance."""
    if not one or not other:
        raise NoCells()
    lines, first, second = blocks_of_both(one, other)
    cell = common_cell(lines, first, second)
    if cell is not None:
        return ("overlap", cell)
    square, point, other_point = nearest_points(one, other)
    return ("apart", square, point, other_point)


def is_distance(one, other, value):
    """Whether any value is such a tuple of these solids."""
    told = distance(one, other)
    if not isinstance(value, tuple) or len(value) != len(told) or value[0] != told[0]:
        return False
    if told[0] == "overlap":
        return is_point(value[1]) and value[1] == told[1]
    _, square, point, other_point = value
    if not is_integer(square) or square != told[1] or not is_point(point) or not is_point(other_point):
        return False
    return is_touched(one, point) and is_touched(other, other_point) and square_between(point, other_point) == square


def is_touched(solid, point):
    """Whether a point lies in a cell of the solid or on its border."""
    return any([all([low <= number <= high for low, number, high in zip(box[0], point, box[1])])
                for box in solid.boxes()])


def nearest_points(one, other):
    """The least square of a distance of points of both, and two such points."""
    found = None
    boxes, other_boxes = by_distance(one, other.bounds), by_distance(other, one.bounds)
    for least, box in boxes:
        # No box behind these is nearer to any box of the other solid.
        if found is not None and least >= found[0]:
            break
        for other_least, other_box in other_boxes:
            if found is not None and other_least >= found[0]:
                break
            points = nearest_of_boxes(box, other_box)
            square = square_between(points[0], points[1])
            if found is None or square < found[0]:
                found = (square, *points)
    return found


def by_distance(solid, bounds):
    """Tuples (square of the distance to the bounds, box) of the boxes of a solid, ascending."""
    found = []
    for box in solid.boxes():
        points = nearest_of_boxes(box, bounds)
        found.append((square_between(points[0], points[1]), box))
    return sorted(found)


def nearest_of_boxes(box, other):
    """A point of each of two boxes, as near to one another as can be."""
    point, other_point = [], []
    for low, high, other_low, other_high in zip(box[0], box[1], other[0], other[1]):
        # Where the boxes lie side by side the numbers are equal.
        shared = max(low, other_low)
        point.append(min(shared, high))
        other_point.append(min(shared, other_high))
    return tuple(point), tuple(other_point)


def square_between(point, other):
    """The square of the distance of two points."""
    return sum([(first - second) ** 2 for first, second in zip(point, other)])


def travel(one, other, side):
    """By how many units other can be moved to the side past one, None if it leaves."""
    if side not in SIDES:
        raise InvalidSide(side)
    lines, standing_still, moved = blocks_apart(one, other)
    return way_to(lines, standing_still, moved, side)


def way_to(lines, standing_still, moved, side):
    """How far blocks can be moved to the side between others, None if nothing is in the way."""
    index = axis_index(side[1])
    stretches = stretches_along(lines[index], side[0])
    places = all_places(lines)
    steps = places[index]
    ways = []
    for start in [first + second for first in places[index - 1] for second in places[index - 2]]:
        last = None
        for strip, begin, end in stretches:
            place = start + steps[strip]
            if moved[place]:
                last = end
            elif standing_still[place] and last is not None:
                ways.append(abs(begin - last))
                last = None
    return min(ways, default=None)


def stretches_along(line, sign):
    """Tuples (strip, begin, end) of the inner strips of an axis, in the direction of the sign."""
    found = [(index + 1, low, high) for index, (low, high) in enumerate(zip(line, line[1:]))]
    if sign == "+":
        return found
    return [(strip, high, low) for strip, low, high in found[::-1]]
