"""Sketches: outlines whose sides are placed by dimensions."""

from solidnames.errors import InvalidDimension, InvalidOutline, ParseError, TooMany, UnknownName
from solidnames.formulas import Formula
from solidnames.shapes import Shape, is_level
from solidnames.solving import first_beyond, first_crossing, groups_without_zero, reached_from, without_redundant
from solidnames.values import is_name

MOST_SIDES = 16
LEAST_SIDES = 4
MOST_DIMENSIONS = 40


class Sketch:
    """Outlines, tuples of names of sides, and dimensions, tuples (side, other, text), with their Formulas."""

    def __init__(self, *outlines, dimensions=()):
        levels = levels_of(outlines)
        formulas = formulas_of(dimensions, levels)
        if len(formulas) > MOST_DIMENSIONS:
            raise TooMany(MOST_DIMENSIONS)
        self.outlines = tuple([tuple(outline) for outline in outlines])
        self.dimensions = tuple(dimensions)
        self.sides = tuple(sorted(levels))
        self.names = tuple(sorted(set([name for formula in formulas for name in formula.names])))
        self.formulas = tuple(formulas)
        self._freedom = groups_without_zero(self.sides, self.dimensions)

    @property
    def freedom(self):
        """The number of groups of connected sides that are not connected with 0."""
        return self._freedom

    def __eq__(self, other):
        return isinstance(other, Sketch) and self.outlines == other.outlines and self.dimensions == other.dimensions

    def solve(self, results):
        """The status for a dict of results of parameters, ("solved", shape) if all is well."""
        for formula in self.formulas:
            missing = formula.first_missing(results)
            if missing is not None:
                raise UnknownName(missing)
        values = [formula.evaluate(results) for formula in self.formulas]
        for index, (word, number) in enumerate(values):
            if word == "failed":
                return ("formula", index, number)
        links, clash = without_redundant(self.dimensions, [number for _, number in values])
        if clash is not None:
            return ("clash", *clash)
        return self._placed(links)

    def _placed(self, links):
        """The status if no dimension clashes."""
        found = reached_from(None, links)
        loose = tuple([side for side in self.sides if side not in found])
        if loose:
            return ("loose", loose)
        positions = {side: found[side][0] for side in self.sides}
        beyond = first_beyond(positions)
        if beyond is not None:
            return ("range", beyond)
        crossing = first_crossing(self.outlines, positions)
        if crossing is not None:
            return ("crossing", *crossing)
        return ("solved", Shape(self.outlines, positions))


def is_list(value):
    return isinstance(value, (list, tuple))


def levels_of(outlines):
    """A dict from each side of the outlines to whether it is level."""
    if not outlines:
        raise InvalidOutline(0)
    levels = {}
    for number, outline in enumerate(outlines):
        if not is_outline(outline):
            raise InvalidOutline(number)
        for index, side in enumerate(outline):
            if side in levels or len(levels) == MOST_SIDES:
                raise InvalidOutline(number)
            levels[side] = is_level(index)
    return levels


def is_outline(value):
    if not is_list(value) or len(value) < LEAST_SIDES or len(value) % 2 != 0:
        return False
    return all([is_name(side) for side in value])


def formulas_of(dimensions, levels):
    """The Formulas of dimensions between sides of one direction."""
    if not is_list(dimensions):
        raise InvalidDimension(-1)
    formulas = []
    for index, dimension in enumerate(dimensions):
        if not is_dimension(dimension, levels):
            raise InvalidDimension(index)
        formulas.append(Formula(dimension[2]))
    return formulas


def is_dimension(value, levels):
    if not isinstance(value, tuple) or len(value) != 3:
        return False
    side, other, text = value
    if not is_name(side) or side not in levels or not is_formula(text):
        return False
    if other is None:
        return True
    return is_name(other) and other != side and other in levels and levels[other] == levels[side]


def is_formula(value):
    try:
        Formula(value)
    except ParseError:
        return False
    return True
