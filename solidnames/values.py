"""What is an integer and what is a name, asked of any value."""

from solidnames.limits import LIMIT

LETTERS = "abcdefghijklmnopqrstuvwxyz"
DIGITS = "0123456789"
MOST_LETTERS = 8
RESERVED = ("min", "max", "self")


def is_integer(value):
    """True and False are integers for Python, but not here."""
    return isinstance(value, int) and not isinstance(value, bool)


def is_within(number):
    return -LIMIT <= number <= LIMIT


def is_name(value):
    if not isinstance(value, str) or not 1 <= len(value) <= MOST_LETTERS:
        return False
    return all([letter in LETTERS for letter in value])


def is_parameter_name(value):
    return is_name(value) and value not in RESERVED


def is_point(value):
    if not isinstance(value, tuple) or len(value) != 3:
        return False
    return all([is_integer(number) for number in value])


def is_box(value):
    """Two points within the limits, the first one less on each axis."""
    if not isinstance(value, tuple) or len(value) != 2 or not is_point(value[0]) or not is_point(value[1]):
        return False
    return all([-LIMIT <= low < high <= LIMIT for low, high in zip(value[0], value[1])])
