"""The tools of features: marked solids that are joined with the part, cut from it or met with it."""

from solidnames.axes import AXES, axis_index, replaced
from solidnames.errors import OutOfBounds
from solidnames.failures import Failure
from solidnames.grids import strides
from solidnames.limits import MAX_COPIES
from solidnames.marked import Marked, prefixed
from solidnames.meanings import meaning_in
from solidnames.planes import prism_between
from solidnames.values import is_within


def values_of(formulas, results):
    """The values of formulas."""
    told = [formula.evaluate(results) for formula in formulas]
    for word, number in told:
        if word == "failed":
            raise Failure("value", number)
    return [number for _, number in told]


def faces_picked(skin, picks):
    """The indexes of the faces that the picks mean."""
    found = []
    for pick in picks:
        answer = meaning_in(skin, pick) if pick[0] == "face" else ("lost",)
        if answer[0] not in ("same", "changed"):
            raise Failure("pick", answer)
        found.extend([index for index, name in enumerate(skin.names) if name == answer[1]])
    return found


def plane_of_face(skin, index):
    """The axis, the coordinate and the front of the plane of a face."""
    panel = skin.groups[index][0]
    side = skin.side_of(panel)
    return side[1], skin.ends_of(panel)[0][axis_index(side[1])], 1 if side[0] == "+" else -1


def prism_tool(feature, skin, results):
    """The tool of an Add or a Cut; the skin is that of the solid ahead, None if there are no picks."""
    name, sketch, plane, extent, _ = feature.arguments
    told = sketch.solve(results)
    if told[0] != "solved":
        raise Failure("sketch", told)
    values = values_of(feature.formulas, results)
    picked = [plane_of_face(skin, index) for index in faces_picked(skin, feature.picks)]
    axis, begin, front = picked[0] if plane[0] == "on" else (plane[1], 0, 1)
    begin = begin + front * values[0]
    end = begin
    if extent[0] in ("by", "back"):
        if values[1] < 1:
            raise Failure("distance", values[1])
        end = begin + (front if extent[0] == "by" else -front) * values[1]
    if extent[0] == "to":
        if picked[-1][0] != axis or picked[-1][1] == begin:
            raise Failure("target", None)
        end = picked[-1][1]
    if not is_within(begin) or not is_within(end):
        raise OutOfBounds()
    shape = told[1].moved(values[-2], values[-1])
    if begin == end:
        # Only what reaches through all has no end of its own.
        return prism_between(axis, shape, (), [None], f"{name}/side/")
    caps = [None, f"{name}/start", f"{name}/end"] if begin < end else [None, f"{name}/end", f"{name}/start"]
    return prism_between(axis, shape, (min(begin, end), max(begin, end)), caps, f"{name}/side/")


def copies_of(feature, tool, results):
    """The tools of a Copy, by ascending (i, j)."""
    steps = feature.arguments[2:]
    values = values_of(feature.formulas, results)
    for count in values[1::2]:
        if not 1 <= count <= MAX_COPIES:
            raise Failure("count", count)
    many = values[1] * values[3] if len(steps) == 2 else values[1]
    if many > MAX_COPIES:
        raise Failure("count", many)
    copies = []
    for place in range(1, many):
        numbers = (place // values[3], place % values[3]) if len(steps) == 2 else (place,)
        vector = [0, 0, 0]
        for number, step, distance in zip(numbers, steps, values[::2]):
            vector[axis_index(step[0])] += number * distance
        prefix = "/".join([feature.name, *[str(number) for number in numbers]])
        copies.append(prefixed(tool.moved(*vector), f"{prefix}/"))
    return copies


def mirror_tool(feature, tool, results):
    """The tool of a Mirror."""
    at = values_of(feature.formulas, results)[0]
    return tool.mirrored(feature.arguments[2], at).within(feature.name)


def keep_tool(feature, results):
    """All cells on the side of a Keep."""
    name, axis, _, side = feature.arguments
    at = values_of(feature.formulas, results)[0]
    lines = replaced(((), (), ()), axis_index(axis), (at,))
    squares = replaced(([None, None], [None, None], [None, None]), axis_index(axis), [None, f"{name}/cut"])
    return Marked(lines, [side == -1, side == 1], squares)


def push_tool(skin, index, value, name):
    """The cells on the way of a face that is moved outward by the value, with the origins of a Push of this name."""
    axis, at, front = plane_of_face(skin, index)
    to = at + front * value
    if not is_within(to):
        raise OutOfBounds()
    across = axis_index(axis)
    lines = replaced(skin.coordinates, across, (min(at, to), max(at, to)))
    steps = strides(lines)
    many = (len(lines[0]) + 1) * steps[0]
    filled = [False for _ in range(many)]
    squares = [[None for _ in range(many)] for _ in AXES]
    origin = skin.labels[skin.groups[index][0]]
    for panel in skin.groups[index]:
        strips = replaced(skin.strips_of(skin.split_panel(panel)[1]), across, 1)
        place = sum([strip * step for strip, step in zip(strips, steps)])
        filled[place] = True
        squares[across][place] = squares[across][place + steps[across]] = origin
        for side, (other, kind) in skin.beside[panel].items():
            if skin.owners[other] != index:
                border = axis_index(side[1])
                upper = place if side[0] == "-" else place + steps[border]
                squares[border][upper] = wall_origin(skin.labels[other], kind, value, name)
    return Marked(lines, filled, squares)


def wall_origin(origin, kind, value, name):
    """The origin of a square over the border of a face, where a neighbor with this origin meets it."""
    goes_on = kind == ("out" if value > 0 else "in")
    return origin if goes_on else f"{name}/wall/{origin}"
