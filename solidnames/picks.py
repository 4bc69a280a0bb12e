"""Picks: names that are kept, and what they mean later."""

from solidnames.errors import InvalidPick
from solidnames.meanings import meaning_in
from solidnames.skins import Skin
from solidnames.values import DIGITS, LETTERS, is_integer

MOST_CHARACTERS = 400
MOST_ALIKE = 10 ** 6
SIGNS = "/+-"


def resolve(marked, pick):
    """What the pick means in a marked solid."""
    if not is_pick(pick):
        raise InvalidPick(pick)
    return meaning_in(Skin(marked), pick)


def is_pick(value):
    """Whether any value has the form of a name."""
    if is_face_pick(value):
        return True
    if not isinstance(value, tuple) or len(value) not in (4, 5):
        return False
    if not is_place(value[-2], value[-1]):
        return False
    if len(value) == 5:
        return value[0] == "edge" and are_face_picks(value[1:3])
    return value[0] == "corner" and isinstance(value[1], tuple) and len(value[1]) >= 2 and are_face_picks(value[1])


def is_face_pick(value):
    if not isinstance(value, tuple) or len(value) != 5 or value[0] != "face":
        return False
    _, origin, around, number, many = value
    if not is_origin(origin) or not isinstance(around, tuple) or not around:
        return False
    return all([is_origin(other) for other in around]) and is_ascending(around) and is_place(number, many)


def are_face_picks(values):
    """Whether a tuple has names of faces, ascending, each once."""
    return all([is_face_pick(value) for value in values]) and is_ascending(values)


def is_origin(value):
    if not isinstance(value, str) or not 1 <= len(value) <= MOST_CHARACTERS:
        return False
    return all([sign in LETTERS or sign in DIGITS or sign in SIGNS for sign in value])


def is_ascending(values):
    return all([low < high for low, high in zip(values, values[1:])])


def is_place(number, many):
    return is_integer(number) and is_integer(many) and 0 <= number < many <= MOST_ALIKE
