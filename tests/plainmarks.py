"""Marks, orders and what breaks, told as the document tells them, to compare with."""

from solidnames.faces import faces
from solidnames.picks import resolve
from tests.helpers import AXES

DIRECTIONS = {"x": ("y", "z"), "y": ("z", "x"), "z": ("x", "y")}


def values_of(feature, results):
    return [formula.evaluate(results)[1] for formula in feature.formulas]


def face_at(marked, pick):
    return [face for face in faces(marked) if face.name == resolve(marked, pick)[1]][0]


def marks_of(feature, ahead, results):
    """A dict from the axes to lists: the marks of an Add, a Cut, a Push or a Keep that is well."""
    values = values_of(feature, results)
    found = {axis: [] for axis in AXES}
    if feature.kind == "keep":
        found[feature.arguments[1]] = [values[0]]
    elif feature.kind == "push":
        face = face_at(ahead, feature.picks[0])
        axis, front = face.side[1], 1 if face.side[0] == "+" else -1
        for other in AXES:
            if other != axis and values[0] != 0:
                found[other] = list(face.layer.lines(other))
        found[axis] = [face.at, face.at + front * values[0]]
    else:
        _, sketch, plane, extent, _ = feature.arguments
        axis, begin, front = plane[1], 0, 1
        if plane[0] == "on":
            face = face_at(ahead, plane[1])
            axis, begin, front = face.side[1], face.at, 1 if face.side[0] == "+" else -1
        begin += front * values[0]
        if extent[0] == "to":
            found[axis] = [begin, face_at(ahead, extent[1]).at]
        elif extent[0] != "all":
            found[axis] = [begin, begin + front * values[1] * (1 if extent[0] == "by" else -1)]
        positions = sketch.solve(results)[1].positions
        for outline in sketch.outlines:
            for index, side in enumerate(outline):
                level = index % 2 == 0
                found[DIRECTIONS[axis][level]].append((side, positions[side] + values[-1 if level else -2]))
        for other in DIRECTIONS[axis]:
            found[other] = [number for _, number in sorted(found[other])]
    return found


def plain_marks(result):
    """The marks of a Result."""
    found, sources = {axis: [] for axis in AXES}, {}
    for record in result.records:
        feature = record.feature
        if record.told != ("ok",):
            continue
        if feature.source is None:
            tools = [marks_of(feature, record.before, result.results)]
            sources[feature.name] = tools[0]
        else:
            source, values = sources[feature.source], values_of(feature, result.results)
            if feature.kind == "mirror":
                turned = feature.arguments[2]
                tools = [{axis: [2 * values[0] - number if axis == turned else number for number in source[axis]] for axis in AXES}]
            else:
                steps, tools = feature.arguments[2:], []
                for i in range(values[1]):
                    for j in range(values[3] if len(steps) == 2 else 1):
                        vector = dict.fromkeys(AXES, 0)
                        vector[steps[0][0]] += i * values[0]
                        if len(steps) == 2:
                            vector[steps[1][0]] += j * values[2]
                        if (i, j) != (0, 0):
                            tools.append({axis: [number + vector[axis] for number in source[axis]] for axis in AXES})
        for tool in tools:
            for axis in AXES:
                found[axis] += tool[axis]
    return {axis: tuple(numbers) for axis, numbers in found.items()}


def plain_counts(result):
    return [(record.feature.name, values_of(record.feature, result.results)[1::2]) for record in result.records
            if record.feature.kind == "copy" and record.told == ("ok",)]


def order_break(first, second):
    """The first (axis, i, j) at which marks compare otherwise, or None."""
    for axis in AXES:
        one, other = first[axis], second[axis]
        for i in range(len(one)):
            for j in range(i + 1, len(one)):
                if (one[i] < one[j], one[i] == one[j]) != (other[i] < other[j], other[i] == other[j]):
                    return (axis, i, j)
    return None


def plain_same_order(one, other):
    first, second = plain_marks(one), plain_marks(other)
    if plain_counts(one) != plain_counts(other) or [len(first[axis]) for axis in AXES] != [len(second[axis]) for axis in AXES]:
        return False
    return order_break(first, second) is None


def plain_break(part, result):
    """What breaks in a variant, or None."""
    for feature in part.features:
        if part.is_on(feature.name) and result.status(feature.name) != ("ok",):
            return ("status", feature.name, result.status(feature.name))
    for (name, counts), (_, other) in zip(plain_counts(part.result), plain_counts(result)):
        if counts != other:
            return ("count", name)
    first, second = plain_marks(part.result), plain_marks(result)
    for axis in AXES:
        if len(first[axis]) != len(second[axis]):
            return ("marks", axis)
    found = order_break(first, second)
    return None if found is None else ("order", *found)
