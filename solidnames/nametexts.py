"""Texts of names and of answers to picks."""

from solidnames.errors import InvalidPick, InvalidText
from solidnames.picks import is_pick
from solidnames.values import DIGITS

# As many as the greatest number of a pick has.
MOST_DIGITS = 7


def show_name(name):
    """The text of a pick."""
    if not is_pick(name):
        raise InvalidPick(name)
    return text_of_name(name)


def read_name(text):
    """The pick with this text."""
    pick = pick_in(text) if isinstance(text, str) else None
    # What was read loosely is right if it has just this text.
    if not is_pick(pick) or text_of_name(pick) != text:
        raise InvalidText(text)
    return pick


def show_answer(answer):
    """The text of what a pick means."""
    if answer[0] == "lost":
        return "lost"
    if answer[0] == "unclear":
        return f"unclear {bracketed(answer[1])}"
    return f"{answer[0]} {text_of_name(answer[1])}"


def text_of_name(name):
    """The text of a name, also of one with origins that are too long for a pick."""
    place = f"{name[-2]}/{name[-1]}"
    if name[0] == "face":
        return " ".join(["face", name[1], place, *name[2]])
    met = name[1:3] if name[0] == "edge" else name[1]
    return " ".join([name[0], place, bracketed(met)])


def bracketed(names):
    """The texts of names, each in brackets."""
    return " ".join([f"({text_of_name(name)})" for name in names])


def pick_in(text):
    """What may be the pick with this text, or None."""
    head, *met = text.split(" (")
    words = head.split(" ")
    if words[0] == "face":
        return face_in(words)
    if len(words) != 2:
        return None
    faces = tuple([face_in(told[:-1].split(" ")) for told in met])
    place = place_in(words[1])
    return ("edge", *faces, *place) if words[0] == "edge" else ("corner", faces, *place)


def face_in(words):
    """What may be the pick with these words, or None."""
    if len(words) < 3:
        return None
    place = place_in(words[2])
    return ("face", words[1], tuple(words[3:]), *place)


def place_in(word):
    """The number and the count in a word, or nothing."""
    parts = word.split("/")
    if len(parts) != 2 or not all([is_number(part) for part in parts]):
        return ()
    return (int(parts[0]), int(parts[1]))


def is_number(text):
    return 1 <= len(text) <= MOST_DIGITS and all([sign in DIGITS for sign in text])
