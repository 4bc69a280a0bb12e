"""Which lines can stand in the text of a part, told by expressions and a table of what follows what, to compare with."""

import re

from solidnames.formulas import Formula
from tests.helpers import caught
from tests.test_nametexts import plain_read

NAME = "([a-z]{1,8})"
# From each state the lines that may follow, and the state behind them; states end in the kind of the feature.
FOLLOWING = {
    "start": ["let", "head"],
    "done": ["head"],
    "outline": ["outline"],
    "outlines": ["outline", "dimension", "flat", "on"],
    "dimensions": ["dimension", "flat", "on"],
    "on": ["pick:plane"],
    "plane": ["by:extent", "back:extent", "to", "all"],
    "extent": ["shift:shifted"],
    "shifted": ["shift:done"],
    "copy": ["source:step"],
    "step": ["axis:far"],
    "far": ["distance:many"],
    "many": ["count:more"],
    "more": ["axis:lastfar", "head"],
    "lastfar": ["distance:lastmany"],
    "lastmany": ["count:done"],
    "mirror": ["source:mirroraxis"],
    "mirroraxis": ["axis:at"],
    "at": ["at:done"],
    "push": ["pick:pushby"],
    "pushby": ["by:done"],
    "keep": ["axis:keepat"],
    "keepat": ["at:side"],
    "side": ["side"],
}
COMPLETE = ("start", "done", "more")


def is_text(text):
    return caught(Formula, text) is None


class PlainLines:
    def __init__(self, feature_alone=False):
        self.state, self.alone = "start", feature_alone
        self.parameters, self.names, self.sides, self.dimensions, self.kind = [], [], {}, 0, None

    def stands(self, line):
        """Whether the line can stand next; if so, it is passed."""
        for row in FOLLOWING[self.state]:
            word, _, state = row.partition(":")
            if self.fits(word, line):
                self.state = state or self.state
                return True
        return False

    def fits(self, word, line):
        if word in ("let", "head", "outline", "dimension", "flat", "on", "to", "all", "side"):
            return getattr(self, "fits_" + word)(line)
        rest = line[len(word) + 1:]
        if not line.startswith(word + " "):
            return False
        if word == "pick":
            return plain_read(rest) is not None
        if word == "source":
            return re.fullmatch(NAME, rest) is not None
        if word == "axis":
            return rest in ("x", "y", "z")
        return is_text(rest)

    def fits_let(self, line):
        found = re.fullmatch(f"let {NAME} ([^\n]*)", line)
        if self.alone or not found or found[1] in ("min", "max", "self") or not is_text(found[2]):
            return False
        if len(self.parameters) == 40 or self.parameters and found[1] <= self.parameters[-1]:
            return False
        self.parameters.append(found[1])
        return True

    def fits_head(self, line):
        found = re.fullmatch(f"(add|cut|copy|mirror|push|keep) {NAME}( off)?", line)
        if not found or self.alone and (found[3] or self.names) or len(self.names) == 12 or found[2] in self.names:
            return False
        self.names.append(found[2])
        self.kind, self.sides, self.dimensions = found[1], {}, 0
        self.state = "outline" if self.kind in ("add", "cut") else self.kind
        return True

    def fits_outline(self, line):
        sides = line.split(" ")[1:]
        if not re.fullmatch(f"outline( {NAME})+", line) or len(sides) < 4 or len(sides) % 2 or len(set(sides)) < len(sides):
            return False
        if set(sides) & set(self.sides) or len(sides) + len(self.sides) > 16:
            return False
        self.sides.update({side: index % 2 for index, side in enumerate(sides)})
        self.state = "outlines"
        return True

    def fits_dimension(self, line):
        found = re.fullmatch(f"dimension {NAME} (-|{NAME}) ([^\n]*)", line)
        if not found or self.dimensions == 40 or not is_text(found[4]) or found[1] not in self.sides:
            return False
        if found[3] and (found[3] not in self.sides or found[3] == found[1] or self.sides[found[3]] != self.sides[found[1]]):
            return False
        self.dimensions, self.state = self.dimensions + 1, "dimensions"
        return True

    def fits_flat(self, line):
        found = re.fullmatch("flat ([xyz]) ([^\n]*)", line)
        if not found or not is_text(found[2]):
            return False
        self.state = "plane"
        return True

    def fits_on(self, line):
        if not line.startswith("on ") or not is_text(line[3:]):
            return False
        self.state = "on"
        return True

    def fits_to(self, line):
        if not line.startswith("to ") or plain_read(line[3:]) is None:
            return False
        self.state = "extent"
        return True

    def fits_all(self, line):
        if line != "all" or self.kind != "cut":
            return False
        self.state = "extent"
        return True

    def fits_side(self, line):
        if line not in ("side 1", "side -1"):
            return False
        self.state = "done"
        return True


def first_wrong(text, feature_alone=False):
    """The index that ParseError must have, or None."""
    if not isinstance(text, str):
        return 0
    if text == "":
        return 0 if feature_alone else None
    reader = PlainLines(feature_alone)
    rows = text.split("\n")
    for index, row in enumerate(rows):
        if not reader.stands(row):
            return index
    complete = reader.state in COMPLETE and not (feature_alone and reader.state == "start")
    return None if complete else len(rows)
