"""Features: what a part is made by. They only tell what is wanted; see evaluation for what it gives."""

from solidnames.axes import AXES
from solidnames.errors import InvalidFeature
from solidnames.formulas import Formula
from solidnames.picks import is_pick
from solidnames.sketches import Sketch, is_formula
from solidnames.values import is_integer, is_name


class Feature:
    """The base class; arguments are those of the constructor, formulas those outside of the sketch, in their order."""

    def __init__(self, kind, arguments, formulas):
        self.name = arguments[0]
        self.kind = kind
        self.arguments = arguments
        self.formulas = tuple([Formula(text) for text in formulas])
        self.picks = ()
        self.source = None
        self.reads = names_read(self.formulas, ())

    def __eq__(self, other):
        return isinstance(other, Feature) and self.kind == other.kind and self.arguments == other.arguments

    def renamed(self, name):
        """The same feature with another name."""
        check(is_name(name), "name")
        return made(self.kind, (name, *self.arguments[1:]))


class Add(Feature):
    """A prism that is joined."""

    def __init__(self, name, sketch, plane, extent, shift=("0", "0")):
        check_prism(name, sketch, plane)
        check(is_extent(extent), "extent")
        check(is_shift(shift), "shift")
        Feature.__init__(self, "add", (name, sketch, plane, extent, shift), prism_formulas(plane, extent, shift))
        self.picks = prism_picks(plane, extent)
        self.reads = names_read(self.formulas, sketch.names)

    def __eq__(self, other):
        return isinstance(other, Add) and self.arguments == other.arguments


class Cut(Feature):
    """A prism that is cut off."""

    def __init__(self, name, sketch, plane, extent, shift=("0", "0")):
        check_prism(name, sketch, plane)
        check(is_extent(extent) or is_all(extent), "extent")
        check(is_shift(shift), "shift")
        Feature.__init__(self, "cut", (name, sketch, plane, extent, shift), prism_formulas(plane, extent, shift))
        self.picks = prism_picks(plane, extent)
        self.reads = names_read(self.formulas, sketch.names)

    def __eq__(self, other):
        return isinstance(other, Cut) and self.arguments == other.arguments


class Copy(Feature):
    """The tool of an Add or a Cut, again and again; a step is a tuple (axis, distance, count)."""

    def __init__(self, name, source, *steps):
        check(is_name(name), "name")
        check(is_name(source), "source")
        check(len(steps) in (1, 2) and all([is_step(step) for step in steps]), "steps")
        Feature.__init__(self, "copy", (name, source, *steps), [text for step in steps for text in step[1:]])
        self.source = source

    def __eq__(self, other):
        return isinstance(other, Copy) and self.arguments == other.arguments


class Mirror(Feature):
    """The tool of an Add or a Cut, mirrored."""

    def __init__(self, name, source, axis, formula):
        check(is_name(name), "name")
        check(is_name(source), "source")
        check(axis in AXES, "axis")
        check(is_formula(formula), "formula")
        Feature.__init__(self, "mirror", (name, source, axis, formula), [formula])
        self.source = source

    def __eq__(self, other):
        return isinstance(other, Mirror) and self.arguments == other.arguments


class Push(Feature):
    """A face that is moved."""

    def __init__(self, name, pick, formula):
        check(is_name(name), "name")
        check(is_pick(pick), "pick")
        check(is_formula(formula), "formula")
        Feature.__init__(self, "push", (name, pick, formula), [formula])
        self.picks = (pick,)

    def __eq__(self, other):
        return isinstance(other, Push) and self.arguments == other.arguments


class Keep(Feature):
    """The solid on one side of a plane."""

    def __init__(self, name, axis, formula, side):
        check(is_name(name), "name")
        check(axis in AXES, "axis")
        check(is_formula(formula), "formula")
        check(is_integer(side) and side in (1, -1), "side")
        Feature.__init__(self, "keep", (name, axis, formula, side), [formula])

    def __eq__(self, other):
        return isinstance(other, Keep) and self.arguments == other.arguments


def made(kind, arguments):
    """The feature of this kind with these arguments."""
    if kind == "add":
        return Add(*arguments)
    if kind == "cut":
        return Cut(*arguments)
    if kind == "copy":
        return Copy(*arguments)
    if kind == "mirror":
        return Mirror(*arguments)
    if kind == "push":
        return Push(*arguments)
    return Keep(*arguments)


def check(is_right, part):
    if not is_right:
        raise InvalidFeature(part)


def check_prism(name, sketch, plane):
    check(is_name(name), "name")
    check(isinstance(sketch, Sketch), "sketch")
    check(is_plane(plane), "plane")


def is_plane(value):
    if not isinstance(value, tuple) or len(value) != 3 or not is_formula(value[2]):
        return False
    return (value[0] == "flat" and value[1] in AXES) or (value[0] == "on" and is_pick(value[1]))


def is_extent(value):
    if not isinstance(value, tuple) or len(value) != 2:
        return False
    return (value[0] in ("by", "back") and is_formula(value[1])) or (value[0] == "to" and is_pick(value[1]))


def is_all(value):
    return value == ("all",)


def is_shift(value):
    return isinstance(value, tuple) and len(value) == 2 and is_formula(value[0]) and is_formula(value[1])


def is_step(value):
    if not isinstance(value, tuple) or len(value) != 3 or value[0] not in AXES:
        return False
    return is_formula(value[1]) and is_formula(value[2])


def prism_formulas(plane, extent, shift):
    """The texts of the formulas of plane, extent and shift."""
    return [plane[2], *extent[1:], *shift] if extent[0] in ("by", "back") else [plane[2], *shift]


def prism_picks(plane, extent):
    """The picks of plane and extent."""
    picks = [plane[1]] if plane[0] == "on" else []
    if extent[0] == "to":
        picks.append(extent[1])
    return tuple(picks)


def names_read(formulas, others):
    """The parameters that formulas read, and others, ascending."""
    return tuple(sorted(set([*others, *[name for formula in formulas for name in formula.names]])))
