"""What several tests use."""

from solidnames.formulas import Formula
from solidnames.marked import block, nothing
from solidnames.parameters import Parameters
from solidnames.planes import Plane
from solidnames.sketches import Sketch
from solidnames.solids import Solid

LIMIT = 10 ** 30
AXES = ("x", "y", "z")
SIDES = ("-x", "+x", "-y", "+y", "-z", "+z")


def caught(call, *arguments, **named):
    """The error that a call raises, as a tuple of its class and its fields."""
    try:
        call(*arguments, **named)
    except Exception as error:
        return (type(error).__name__, *vars(error).values())
    return None


def square(**texts):
    """The shape of one outline with the sides s, e, n, w at these positions."""
    sides = {"s": "0", "e": "1", "n": "1", "w": "0", **texts}
    sketch = Sketch(["s", "e", "n", "w"], dimensions=[(side, None, text) for side, text in sides.items()])
    return sketch.solve({})[1]


def any_values():
    """Values of every kind that is no integer and no string."""
    deep = ()
    for _ in range(29):
        deep = (deep,)
    return [None, True, False, (), [], {}, ("a",), ["a"], [["a"]], {"a": 1}, {1: {2: 3}}, deep,
            Formula("1"), Parameters(a="1"), (1, 2, [3]), (Formula("a"), {}), [0, 0], [0, 0, 0], (0, 0, True), (True, 0),
            (None, None), (None, None, None), ("0", "0", "0"), (0, 0, 0, 0), (0,), [(0, 0, 0), (1, 1, 1)],
            ([0, 0, 0], [1, 1, 1]), Solid(), Solid(((0, 0, 0), (1, 1, 1))), nothing(), block(((0, 0, 0), (1, 1, 1)), "a"),
            Plane("x", 0), Sketch(["a", "b", "c", "d"]), square()]


def strings():
    return ["", " ", "\n", "a", "A", "a b", "a1", "X", "y ", "+a", "x+", "min", "self", "abcdefghi", "~", "0", "-1"]


def numbers():
    return [0, 1, -1, 2, 10 ** 30, 10 ** 30 + 1, -10 ** 30 - 1, 10 ** 999]
