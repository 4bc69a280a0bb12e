"""What several tests use."""

from solidnames.formulas import Formula
from solidnames.parameters import Parameters

LIMIT = 10 ** 30


def caught(call, *arguments, **named):
    """The error that a call raises, as a tuple of its class and its fields."""
    try:
        call(*arguments, **named)
    except Exception as error:
        return (type(error).__name__, *vars(error).values())
    return None


def any_values():
    """Values of every kind that is no integer and no string."""
    deep = ()
    for _ in range(29):
        deep = (deep,)
    return [None, True, False, (), [], {}, ("a",), ["a"], [["a"]], {"a": 1}, {1: {2: 3}}, deep,
            Formula("1"), Parameters(a="1"), (1, 2, [3]), (Formula("a"), {})]


def strings():
    return ["", " ", "\n", "a", "A", "a b", "a1", "x", "y ", "+x", "min", "self", "abcdefghi", "~", "0", "-1"]


def numbers():
    return [0, 1, -1, 2, 10 ** 30, 10 ** 30 + 1, -10 ** 30 - 1, 10 ** 999]
