"""The errors of the package; each stores its fields in attributes."""


class InvalidBox(ValueError):
    """A value that is no box."""

    def __init__(self, value):
        ValueError.__init__(self, "this is no box")
        self.value = value


class InvalidAxis(ValueError):
    """A value that is no axis."""

    def __init__(self, value):
        ValueError.__init__(self, "this is no axis")
        self.value = value


class InvalidNumber(ValueError):
    """A value that is no integer, or not one of those that are allowed."""

    def __init__(self, value):
        ValueError.__init__(self, "this is not a number that can stand here")
        self.value = value


class InvalidName(ValueError):
    """A value that is no name."""

    def __init__(self, value):
        ValueError.__init__(self, "this is no name")
        self.value = value


class InvalidPick(ValueError):
    """A value that has not the form of a name of a face, an edge or a corner."""

    def __init__(self, value):
        ValueError.__init__(self, "this is no pick")
        self.value = value


class OutOfBounds(ValueError):
    """A coordinate beyond LIMIT."""

    def __init__(self):
        ValueError.__init__(self, "a coordinate is beyond the limit")


class ParseError(ValueError):
    """A text that is not of the form that is read; index tells where this shows."""

    def __init__(self, index):
        ValueError.__init__(self, "the text cannot be read")
        self.index = index


class NotLinear(ValueError):
    """A formula that is not linear in a parameter."""

    def __init__(self, name):
        ValueError.__init__(self, "the formula is not linear")
        self.name = name


class Ring(ValueError):
    """Parameters that read themselves through one another."""

    def __init__(self, names):
        ValueError.__init__(self, "the parameters read themselves")
        self.names = names


class InUse(ValueError):
    """Something that cannot go, since what has this name reads it."""

    def __init__(self, name):
        ValueError.__init__(self, "this is still read")
        self.name = name


class InvalidOutline(ValueError):
    """An argument that is no outline."""

    def __init__(self, index):
        ValueError.__init__(self, "the argument is no outline")
        self.index = index


class InvalidDimension(ValueError):
    """An item that is no dimension."""

    def __init__(self, index):
        ValueError.__init__(self, "the item is no dimension")
        self.index = index


class InvalidFront(ValueError):
    """A value that is no front of a plane."""

    def __init__(self, value):
        ValueError.__init__(self, "this is no front")
        self.value = value


class InvalidFeature(ValueError):
    """An argument of a feature, told by its name, that is not as it must be."""

    def __init__(self, part):
        ValueError.__init__(self, "an argument of the feature is wrong")
        self.part = part


class DuplicateName(ValueError):
    """A name that is there already."""

    def __init__(self, name):
        ValueError.__init__(self, "the name is there already")
        self.name = name


class InvalidIndex(ValueError):
    """A value that is no index of the list."""

    def __init__(self, value):
        ValueError.__init__(self, "this is no index of the list")
        self.value = value


class InvalidSide(ValueError):
    """A value that is no side."""

    def __init__(self, value):
        ValueError.__init__(self, "this is no side")
        self.value = value


class NoCells(ValueError):
    """A solid without cells where one with cells is needed."""

    def __init__(self):
        ValueError.__init__(self, "a solid has no cells")


class Overlapping(ValueError):
    """Solids that have cells in common; cell is the least of them."""

    def __init__(self, cell):
        ValueError.__init__(self, "solids have cells in common")
        self.cell = cell


class InvalidText(ValueError):
    """A value that is not the text of a name."""

    def __init__(self, value):
        ValueError.__init__(self, "this is not the text of a name")
        self.value = value


class InvalidKind(ValueError):
    """A value that is not one of the words face, edge and corner."""

    def __init__(self, value):
        ValueError.__init__(self, "this is no kind")
        self.value = value


class NotDone(ValueError):
    """A feature that is on and whose status is not ok."""

    def __init__(self, name):
        ValueError.__init__(self, "a feature is not ok")
        self.name = name


class CommandError(ValueError):
    """A value that is no line of a console."""

    def __init__(self, value):
        ValueError.__init__(self, "this is no command")
        self.value = value


class NotSurface(LookupError):
    """A cell and a side that tell no square of the surface."""

    def __init__(self, cell, side):
        LookupError.__init__(self, "there is no surface")
        self.cell = cell
        self.side = side


class NothingToUndo(LookupError):
    """There is no step that can be undone."""

    def __init__(self):
        LookupError.__init__(self, "nothing can be undone")


class NothingToRedo(LookupError):
    """There is no step that can be done again."""

    def __init__(self):
        LookupError.__init__(self, "nothing can be done again")


class TooMany(OverflowError):
    """More than the limit."""

    def __init__(self, limit):
        OverflowError.__init__(self, "there are too many")
        self.limit = limit


class Failed(ArithmeticError):
    """A formula whose result is a failure with this word."""

    def __init__(self, word):
        ArithmeticError.__init__(self, "a result is a failure")
        self.word = word


class UnknownName(KeyError):
    """A name, or another value, under which nothing is known."""

    def __init__(self, name):
        KeyError.__init__(self, "the name is not known")
        self.name = name


class UnknownSide(KeyError):
    """A name, or another value, that is no side of the shape."""

    def __init__(self, name):
        KeyError.__init__(self, "there is no such side")
        self.name = name


class NotFeature(TypeError):
    """A value that is no feature."""

    def __init__(self, value):
        TypeError.__init__(self, "this is no feature")
        self.value = value


class NotFlag(TypeError):
    """A value that is neither True nor False."""

    def __init__(self, value):
        TypeError.__init__(self, "this is neither True nor False")
        self.value = value
