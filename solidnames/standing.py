"""Whether a solid stands by itself, with papers that show it."""

from math import gcd

from solidnames.errors import NoCells
from solidnames.values import is_integer


def center(solid):
    """The mean of the centers of the cells: three fractions (top, bottom) in lowest terms."""
    boxes = solid.boxes()
    if not boxes:
        raise NoCells()
    # The center of a box is half the sum of its corners.
    bottom = 2 * solid.volume
    return tuple([in_lowest_terms(sum([volume_of(box) * (box[0][axis] + box[1][axis]) for box in boxes]), bottom)
                  for axis in (0, 1, 2)])


def standing(solid):
    """A paper that the solid stands, or tips."""
    middle = center(solid)
    points = hull_of([corner for square in contact_rectangles(solid) for corner in corners_of_rectangle(square)])
    for point, following in zip(points, [*points[1:], points[0]]):
        # The direction to the right of the way, which is the outside.
        a, b = following[1] - point[1], point[0] - following[0]
        c = a * point[0] + b * point[1]
        if reaches(middle, a, b, c):
            return ("tips", (a, b, c))
    return ("stands", tuple(points))


def is_standing(solid, value):
    """Whether any value is such a paper of this solid."""
    middle = center(solid)
    if not isinstance(value, tuple) or len(value) != 2 or not isinstance(value[1], tuple):
        return False
    rectangles = contact_rectangles(solid)
    if value[0] == "stands":
        return shows_standing(middle, rectangles, value[1])
    return value[0] == "tips" and shows_tipping(middle, rectangles, value[1])


def shows_standing(middle, rectangles, points):
    """Whether points are corners of contact squares with the line on the left of the way around them."""
    if len(points) < 3 or not all([is_contact(point, rectangles) for point in points]):
        return False
    for point, following in zip(points, [*points[1:], points[0]]):
        a, b = following[1] - point[1], point[0] - following[0]
        if reaches(middle, a, b, a * point[0] + b * point[1]):
            return False
    return True


def shows_tipping(middle, rectangles, numbers):
    """Whether numbers tell a line with all contact squares on one side and the center on it or on the other one."""
    if len(numbers) != 3 or not all([is_integer(number) for number in numbers]):
        return False
    a, b, c = numbers
    if a == 0 and b == 0:
        return False
    corners = [corner for square in rectangles for corner in corners_of_rectangle(square)]
    return all([a * x + b * y <= c for x, y in corners]) and reaches(middle, a, b, c)


def reaches(middle, a, b, c):
    """Whether a * x + b * y >= c for the vertical line through a center."""
    (x, x_bottom), (y, y_bottom), _ = middle
    return a * x * y_bottom + b * y * x_bottom >= c * x_bottom * y_bottom


def is_contact(point, rectangles):
    """Whether any value is a corner of a contact square."""
    if not isinstance(point, tuple) or len(point) != 2 or not is_integer(point[0]) or not is_integer(point[1]):
        return False
    return any([x0 <= point[0] <= x1 and y0 <= point[1] <= y1 for x0, y0, x1, y1 in rectangles])


def contact_rectangles(solid):
    """Rectangles (x, y, x, y) that have all contact squares."""
    least = solid.bounds[0][2]
    return [(low[0], low[1], high[0], high[1]) for low, high in solid.boxes() if low[2] == least]


def corners_of_rectangle(rectangle):
    x0, y0, x1, y1 = rectangle
    return [(x0, y0), (x1, y0), (x0, y1), (x1, y1)]


def hull_of(points):
    """The corners of the smallest convex figure that has the points, counterclockwise."""
    ordered = sorted(set(points))
    return half_hull(ordered)[:-1] + half_hull(ordered[::-1])[:-1]


def half_hull(points):
    """The corners on the right of the way from the first point to the last one."""
    corners = []
    for point in points:
        while len(corners) >= 2 and not turns_left(corners[-2], corners[-1], point):
            corners.pop()
        corners.append(point)
    return corners


def turns_left(one, other, third):
    return (other[0] - one[0]) * (third[1] - one[1]) > (other[1] - one[1]) * (third[0] - one[0])


def volume_of(box):
    low, high = box
    return (high[0] - low[0]) * (high[1] - low[1]) * (high[2] - low[2])


def in_lowest_terms(top, bottom):
    common = gcd(top, bottom)
    return (top // common, bottom // common)
