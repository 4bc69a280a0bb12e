"""A console: lines that edit a part and ask for what it is, answered with strings."""

from solidnames.errors import CommandError, UnknownName
from solidnames.nametexts import read_name, show_answer, text_of_name
from solidnames.parts import Part
from solidnames.reading import read_feature
from solidnames.skins import Skin
from solidnames.texts import part_text, table, word_of
from solidnames.values import DIGITS

MOST_DIGITS = 31

# What follows the first word of each line: words, or all the rest of the line.
FORMS = {
    "let": ("name", "text"), "drop": ("name",), "put": ("index", "lines"), "replace": ("lines",), "take": ("name",),
    "move": ("name", "index"), "on": ("name",), "off": ("name",), "undo": (), "redo": (), "text": (), "table": (),
    "value": ("name",), "status": ("name",), "volume": (), "area": (), "faces": (), "resolve": ("pick",)}
RESTS = ("text", "lines", "pick")
EDITS = ("let", "drop", "put", "replace", "take", "move", "on", "off")


class Console:
    """A part, at first without parameters and features, that lines edit."""

    def __init__(self):
        self.part = Part()

    def run(self, line):
        """The answer to a line."""
        if not isinstance(line, str):
            raise CommandError(line)
        trying = line.startswith("try ")
        word, told = told_in(line[4:] if trying else line)
        if told is None:
            raise CommandError(line)
        if trying:
            return self.part.explore(lambda part: answered(part, word, told))
        return answered(self.part, word, told)

    def __call__(self, line):
        return self.run(line)


def told_in(line):
    """The first word of a line, and the list of what follows it; None in its place if this is no line."""
    word, space, rest = line.partition(" ")
    if word not in FORMS:
        return word, None
    told = []
    for what in FORMS[word]:
        if not space:
            return word, None
        if what in RESTS:
            told.append(rest)
            return word, told
        one, space, rest = rest.partition(" ")
        if one == "" or (what == "index" and not is_index(one)):
            return word, None
        told.append(one)
    return word, None if space else told


def is_index(text):
    """Whether this is an integer as formulas have them."""
    if not 1 <= len(text) <= MOST_DIGITS or not all([sign in DIGITS for sign in text]):
        return False
    return text == "0" or text[0] != "0"


def answered(part, word, told):
    """Does what a line tells; the answer."""
    values = [value_of(what, text) for what, text in zip(FORMS[word], told)]
    if word in EDITS:
        touched = edited(part, word, values)
        return " ".join(touched) if touched else "-"
    if word == "undo":
        part.undo()
        return "ok"
    if word == "redo":
        part.redo()
        return "ok"
    return asked(part, word, values)


def value_of(what, text):
    """What the part is told, read from a piece of a line."""
    if what == "index":
        return int(text)
    if what == "lines":
        return read_feature(text.replace(" ; ", "\n"))
    return read_name(text) if what == "pick" else text


def edited(part, word, values):
    """Makes an edit; the names of the features that it touches."""
    if word == "let":
        return part.define(values[0], values[1])
    if word == "drop":
        return part.drop(values[0])
    if word == "put":
        return part.put(values[0], values[1])
    if word == "replace":
        return part.replace(values[0])
    if word == "take":
        return part.take(values[0])
    if word == "move":
        return part.move(values[0], values[1])
    return part.switch(values[0], word == "on")


def asked(part, word, values):
    """The answer to a line that changes nothing."""
    if word == "text":
        return part_text(part)
    if word == "table":
        return table(part)
    if word == "value":
        return value_text(part, values[0])
    if word == "status":
        return word_of(part.result.status(values[0]))
    if word == "resolve":
        return show_answer(part.result.resolve(values[0]))
    marked = part.result.marked
    if word == "faces":
        found = [text_of_name(name) for name in sorted(Skin(marked).names)]
        return "\n".join(found) if found else "-"
    solid = marked.to_solid()
    return str(solid.volume if word == "volume" else solid.area)


def value_text(part, name):
    """The value of a parameter, or the word of its failure."""
    results = part.result.results
    if name not in results:
        raise UnknownName(name)
    return str(results[name][1])
