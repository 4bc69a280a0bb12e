"""The tools of features: marked solids that are joined with the part, cut from it or met with it, with their marks."""

from solidnames.axes import AXES, axis_index, moved_lines, replaced
from solidnames.errors import OutOfBounds
from solidnames.failures import Failure
from solidnames.grids import strides
from solidnames.limits import MAX_COPIES
from solidnames.marked import Marked, nothing, prefixed
from solidnames.meanings import meaning_in
from solidnames.planes import direction_indexes, prism_between
from solidnames.values import is_within


class Tool:
    """A marked solid, and the coordinates on each axis at which it was placed."""

    def __init__(self, marked, marks):
        self.marked = marked
        self.marks = marks


def values_of(formulas, results):
    """The values of formulas."""
    told = [formula.evaluate(results) for formula in formulas]
    for word, number in told:
        if word == "failed":
            raise Failure("value", number)
    return [number for _, number in told]


def faces_picked(skin, picks):
    """The indexes of the faces that the picks mean."""
    found = []
    for pick in picks:
        answer = meaning_in(skin, pick) if pick[0] == "face" else ("lost",)
        if answer[0] not in ("same", "changed"):
            raise Failure("pick", answer)
        found.extend([index for index, name in enumerate(skin.names) if name == answer[1]])
    return found


def plane_of_face(skin, index):
    """The axis, the coordinate and the front of the plane of a face."""
    panel = skin.groups[index][0]
    side = skin.side_of(panel)
    return side[1], skin.ends_of(panel)[0][axis_index(side[1])], 1 if side[0] == "+" else -1


def prism_tool(feature, skin, results):
    """The tool of an Add or a Cut; the skin is that of the solid ahead, None if there are no picks."""
    name, sketch, plane, extent, _ = feature.arguments
    told = sketch.solve(results)
    if told[0] != "solved":
        raise Failure("sketch", told)
    values = values_of(feature.formulas, results)
    picked = [plane_of_face(skin, index) for index in faces_picked(skin, feature.picks)]
    axis, begin, front = picked[0] if plane[0] == "on" else (plane[1], 0, 1)
    begin = begin + front * values[0]
    end = begin
    if extent[0] in ("by", "back"):
        if values[1] < 1:
            raise Failure("distance", values[1])
        end = begin + (front if extent[0] == "by" else -front) * values[1]
    if extent[0] == "to":
        if picked[-1][0] != axis or picked[-1][1] == begin:
            raise Failure("target", None)
        end = picked[-1][1]
    if not is_within(begin) or not is_within(end):
        raise OutOfBounds()
    # Only what reaches through all has no end of its own.
    ends = () if begin == end else (begin, end)
    return prism_on(axis, ends, told[1].moved(values[-2], values[-1]), name)


def prism_on(axis, ends, shape, name):
    """The tool over a shape, from the first coordinate to the second one, or without an end."""
    caps = [None]
    if ends:
        words = ("start", "end") if ends[0] < ends[1] else ("end", "start")
        caps = [None, *[f"{name}/{word}" for word in words]]
    uprights, levels = [], []
    for side in shape.positions:
        low, high = shape.ends(side)
        if low[0] == high[0]:
            uprights.append(low[0])
        else:
            levels.append(low[1])
    marks = [ends, ends, ends]
    first, second = direction_indexes(axis)
    marks[first], marks[second] = tuple(uprights), tuple(levels)
    return Tool(prism_between(axis, shape, tuple(sorted(ends)), caps, f"{name}/side/"), tuple(marks))


def copies_of(feature, tool, results):
    """The tools of a Copy, by ascending (i, j)."""
    steps = feature.arguments[2:]
    values = values_of(feature.formulas, results)
    for count in values[1::2]:
        if not 1 <= count <= MAX_COPIES:
            raise Failure("count", count)
    many = values[1] * values[3] if len(steps) == 2 else values[1]
    if many > MAX_COPIES:
        raise Failure("count", many)
    copies = []
    for place in range(1, many):
        numbers = (place // values[3], place % values[3]) if len(steps) == 2 else (place,)
        vector = [0, 0, 0]
        for number, step, distance in zip(numbers, steps, values[::2]):
            vector[axis_index(step[0])] += number * distance
        prefix = "/".join([feature.name, *[str(number) for number in numbers]])
        marked = prefixed(tool.marked.moved(*vector), f"{prefix}/")
        copies.append(Tool(marked, moved_lines(tool.marks, vector)))
    return copies


def mirror_tool(feature, tool, results):
    """The tool of a Mirror."""
    at = values_of(feature.formulas, results)[0]
    axis = feature.arguments[2]
    marked = tool.marked.mirrored(axis, at).within(feature.name)
    index = axis_index(axis)
    return Tool(marked, replaced(tool.marks, index, tuple([2 * at - number for number in tool.marks[index]])))


def keep_tool(feature, results):
    """All cells on the side of a Keep."""
    name, axis, _, side = feature.arguments
    at = values_of(feature.formulas, results)[0]
    lines = replaced(((), (), ()), axis_index(axis), (at,))
    squares = replaced(([None, None], [None, None], [None, None]), axis_index(axis), [None, f"{name}/cut"])
    return Tool(Marked(lines, [side == -1, side == 1], squares), lines)


def push_tool(skin, index, value, name):
    """The tool of a Push of this name that moves a face outward by the value."""
    axis, at, front = plane_of_face(skin, index)
    to = at + front * value
    if not is_within(to):
        raise OutOfBounds()
    across = axis_index(axis)
    if value == 0:
        return Tool(nothing(), replaced(((), (), ()), across, (at, at)))
    marked = way_of_face(skin, index, value, name)
    solid = marked.to_solid()
    return Tool(marked, replaced(tuple([solid.lines(other) for other in AXES]), across, (at, to)))


def way_of_face(skin, index, value, name):
    """The cells on the way of a face that is moved outward by the value, with the origins of a Push of this name."""
    axis, at, front = plane_of_face(skin, index)
    to = at + front * value
    across = axis_index(axis)
    lines = replaced(skin.coordinates, across, (min(at, to), max(at, to)))
    steps = strides(lines)
    many = (len(lines[0]) + 1) * steps[0]
    filled = [False for _ in range(many)]
    squares = [[None for _ in range(many)] for _ in AXES]
    origin = skin.labels[skin.groups[index][0]]
    for panel in skin.groups[index]:
        strips = replaced(skin.strips_of(skin.split_panel(panel)[1]), across, 1)
        place = sum([strip * step for strip, step in zip(strips, steps)])
        filled[place] = True
        squares[across][place] = squares[across][place + steps[across]] = origin
        for side, (other, kind) in skin.beside[panel].items():
            if skin.owners[other] != index:
                border = axis_index(side[1])
                upper = place if side[0] == "-" else place + steps[border]
                squares[border][upper] = wall_origin(skin.labels[other], kind, value, name)
    return Marked(lines, filled, squares)


def wall_origin(origin, kind, value, name):
    """The origin of a square over the border of a face, where a neighbor with this origin meets it."""
    goes_on = kind == ("out" if value > 0 else "in")
    return origin if goes_on else f"{name}/wall/{origin}"
