"""Reads the texts of features and parts, line by line."""

from solidnames.axes import AXES
from solidnames.errors import InvalidOutline, InvalidText, ParseError
from solidnames.features import made
from solidnames.limits import MAX_FEATURES
from solidnames.nametexts import read_name
from solidnames.parameters import Parameters
from solidnames.parts import check_reads, part_of
from solidnames.sketches import MOST_DIMENSIONS, Sketch, is_dimension, is_formula, levels_of
from solidnames.values import is_name, is_parameter_name

KINDS = ("add", "cut", "copy", "mirror", "push", "keep")


def read_feature(text):
    """The feature with this text."""
    if not isinstance(text, str):
        raise ParseError(0)
    reader = LineReader(text.split("\n"))
    feature, _ = reader.read_entry([], False)
    reader.check(reader.is_at_end())
    return feature


def read_part(text):
    """The Part with this text, without steps."""
    if not isinstance(text, str):
        raise ParseError(0)
    reader = LineReader(text.split("\n") if text else [])
    texts = reader.read_parameters()
    entries = []
    while not reader.is_at_end():
        reader.check(len(entries) < MAX_FEATURES)
        entries.append(reader.read_entry([feature.name for feature, _ in entries], True))
    parameters = Parameters(**texts)
    for feature, _ in entries:
        check_reads(feature, parameters)
    return part_of(parameters, tuple(entries))


class LineReader:
    """Stops with ParseError at the first line that cannot stand behind those before it.

    A line is passed when all of it has been found right.
    """

    def __init__(self, rows):
        self.rows = rows
        self.place = 0

    def check(self, is_right):
        if not is_right:
            raise ParseError(self.place)

    def is_at_end(self):
        return self.place == len(self.rows)

    def next_word(self):
        """The first word of the next line; there is none behind the last one."""
        return "" if self.is_at_end() else self.rows[self.place].partition(" ")[0]

    def rest_behind(self, word):
        """What follows the word, which the next line must begin with, and a space."""
        self.check(not self.is_at_end() and self.rows[self.place].startswith(f"{word} "))
        return self.rows[self.place][len(word) + 1:]

    def read_text(self, word):
        """The formula behind a word."""
        text = self.rest_behind(word)
        self.check(is_formula(text))
        self.place += 1
        return text

    def read_axis(self):
        axis = self.rest_behind("axis")
        self.check(axis in AXES)
        self.place += 1
        return axis

    def read_source(self):
        name = self.rest_behind("source")
        self.check(is_name(name))
        self.place += 1
        return name

    def read_pick(self, word):
        """The pick behind a word."""
        pick = pick_or_none(self.rest_behind(word))
        self.check(pick is not None)
        self.place += 1
        return pick

    def read_parameters(self):
        """A dict from the names of the parameters to their formulas."""
        texts = {}
        last = ""
        while self.next_word() == "let":
            name, _, text = self.rest_behind("let").partition(" ")
            self.check(len(texts) < Parameters.MOST and is_parameter_name(name) and last < name and is_formula(text))
            texts[name] = text
            last = name
            self.place += 1
        return texts

    def read_entry(self, taken, may_be_off):
        """A feature whose name is not among those taken, and whether it is on."""
        self.check(not self.is_at_end())
        words = self.rows[self.place].split(" ")
        on = not may_be_off or words[2:] != ["off"]
        self.check(len(words) == (2 if on else 3) and words[0] in KINDS and is_name(words[1]) and words[1] not in taken)
        self.place += 1
        arguments = self.read_arguments(words[0])
        return made(words[0], (words[1], *arguments)), on

    def read_arguments(self, kind):
        """The arguments of a feature behind its name."""
        if kind in ("add", "cut"):
            return (self.read_sketch(), self.read_plane(), self.read_extent(kind), self.read_shift())
        if kind == "copy":
            return self.read_copy()
        if kind == "mirror":
            return (self.read_source(), self.read_axis(), self.read_text("at"))
        if kind == "push":
            return (self.read_pick("pick"), self.read_text("by"))
        return (self.read_axis(), self.read_text("at"), self.read_side())

    def read_sketch(self):
        outlines = []
        while not outlines or self.next_word() == "outline":
            outlines.append(self.rest_behind("outline").split(" "))
            self.check(are_outlines(outlines))
            self.place += 1
        levels = levels_of(outlines)
        dimensions = []
        while self.next_word() == "dimension":
            side, _, rest = self.rest_behind("dimension").partition(" ")
            other, _, text = rest.partition(" ")
            dimension = (side, None if other == "-" else other, text)
            self.check(len(dimensions) < MOST_DIMENSIONS and is_dimension(dimension, levels))
            dimensions.append(dimension)
            self.place += 1
        return Sketch(*outlines, dimensions=dimensions)

    def read_plane(self):
        if self.next_word() == "on":
            text = self.read_text("on")
            return ("on", self.read_pick("pick"), text)
        axis, _, text = self.rest_behind("flat").partition(" ")
        self.check(axis in AXES and is_formula(text))
        self.place += 1
        return ("flat", axis, text)

    def read_extent(self, kind):
        word = self.next_word()
        if word in ("by", "back"):
            return (word, self.read_text(word))
        if word == "all" and kind == "cut":
            self.check(self.rows[self.place] == "all")
            self.place += 1
            return ("all",)
        return ("to", self.read_pick("to"))

    def read_shift(self):
        first = self.read_text("shift")
        return (first, self.read_text("shift"))

    def read_copy(self):
        source = self.read_source()
        steps = [self.read_step()]
        if self.next_word() == "axis":
            steps.append(self.read_step())
        return (source, *steps)

    def read_step(self):
        axis = self.read_axis()
        far = self.read_text("distance")
        return (axis, far, self.read_text("count"))

    def read_side(self):
        side = self.rest_behind("side")
        self.check(side in ("1", "-1"))
        self.place += 1
        return int(side)


def pick_or_none(text):
    """The pick with this text, or None."""
    try:
        return read_name(text)
    except InvalidText:
        return None


def are_outlines(outlines):
    """Whether a sketch may have these outlines."""
    try:
        levels_of(outlines)
    except InvalidOutline:
        return False
    return True
