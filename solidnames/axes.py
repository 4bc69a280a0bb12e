"""Axes, sides, and the checks of what is passed with them."""

from solidnames.errors import InvalidAxis, InvalidNumber, OutOfBounds
from solidnames.values import is_integer, is_within

AXES = ("x", "y", "z")
SIDES = ("-x", "+x", "-y", "+y", "-z", "+z")
PLACES = {"x": 0, "y": 1, "z": 2}


def axis_index(axis):
    """The place of the axis in a point; InvalidAxis for any value that is no axis."""
    if axis not in AXES:
        raise InvalidAxis(axis)
    return PLACES[axis]


def replaced(point, index, number):
    """The point with another coordinate at one place."""
    return (*point[:index], number, *point[index + 1:])


def check_integers(*numbers):
    for number in numbers:
        if not is_integer(number):
            raise InvalidNumber(number)


def check_bounds(lines):
    """The lines along all axes are within LIMIT."""
    for coordinates in lines:
        if not all([is_within(number) for number in coordinates]):
            raise OutOfBounds()


def moved_lines(lines, distances):
    """The lines, moved along each axis."""
    return tuple([tuple([number + distance for number in line]) for line, distance in zip(lines, distances)])


def mirrored_lines(lines, index, at):
    """The lines, those along one axis mirrored at a coordinate."""
    mirrored = tuple([2 * at - number for number in lines[index][::-1]])
    return replaced(lines, index, mirrored)
