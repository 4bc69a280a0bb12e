"""Features evaluated with plain cells, to compare with."""

from tests.cells import Surface, beside
from tests.helpers import AXES, SIDES
from tests.plainfaces import Plain, lowest, meetings_at, segments_of
from tests.test_picks import plain_meaning

# Farther than any solid of the tests reaches.
FAR = 30
DIRECTIONS = {"x": ("y", "z"), "y": ("z", "x"), "z": ("x", "y")}


class Fails(Exception):
    pass


def with_origins(cells, origin_at):
    """The surface of cells, origin_at told the cell and the side."""
    return Surface(cells, {(cell, side): origin_at(cell, side) for cell in cells for side in SIDES if beside(cell, side) not in cells})


def value_of(formula, results):
    word, number = formula.evaluate(results)
    if word == "failed":
        raise Fails("value", number)
    return number


def face_of(plain, pick):
    """The squares of the face that a pick means."""
    answer = plain_meaning(plain, pick) if pick[0] == "face" else ("lost",)
    if answer[0] not in ("same", "changed"):
        raise Fails("pick", answer)
    return plain.faces[plain.names.index(answer[1])]


def plane_of(squares):
    """The axis, the coordinate and the front."""
    square = next(iter(squares))
    axis = square[1][1]
    return axis, lowest(square)[AXES.index(axis)], 1 if square[1][0] == "+" else -1


def prism(feature, plain, results):
    name, sketch, plane, extent, _ = feature.arguments
    told = sketch.solve(results)
    if told[0] != "solved":
        raise Fails("sketch", told)
    values = [value_of(formula, results) for formula in feature.formulas]
    faces = [plane_of(face_of(plain, pick)) for pick in feature.picks]
    axis, at, front = faces[0] if plane[0] == "on" else (plane[1], 0, 1)
    at += front * values[0]
    if extent[0] in ("by", "back") and values[1] < 1:
        raise Fails("distance", values[1])
    if extent[0] == "to" and (faces[-1][0] != axis or faces[-1][1] == at):
        raise Fails("target", None)
    end = {"by": at + front * values[1], "back": at - front * values[1], "to": faces[-1][1] if faces else 0, "all": None}[extent[0]]
    low, high = (-FAR, FAR) if end is None else sorted((at, end))
    u, v = values[-2:]
    places = list(told[1].positions.values())
    reach = range(min(places), max(places))
    flat = {(i + u, j + v) for i in reach for j in reach if (i, j) in told[1]}
    first, second = DIRECTIONS[axis]
    cells = {}
    for i, j in flat:
        for k in range(low, high):
            place = {first: i, second: j, axis: k}
            cells[tuple(place[key] for key in AXES)] = (i, j, k)

    def origin_at(cell, side):
        i, j, k = cells[cell]
        step = 1 if side[0] == "+" else -1
        if side[1] == axis:
            return f"{name}/start" if k + (step > 0) == at else f"{name}/end"
        other = (i + step, j) if side[1] == first else (i, j + step)
        return f"{name}/side/{told[1].side_between((i - u, j - v), (other[0] - u, other[1] - v))}"
    return with_origins(set(cells), origin_at)


def shifted(surface, vector, prefix):
    def place(cell):
        return tuple(a + b for a, b in zip(cell, vector))
    return Surface({place(cell) for cell in surface.cells}, {
        (place(cell), side): prefix + origin for (cell, side), origin in surface.origins.items()})


def turned(surface, axis, at, prefix):
    index = AXES.index(axis)

    def place(cell):
        return cell[:index] + (2 * at - 1 - cell[index],) + cell[index + 1:]

    def other(side):
        return side if side[1] != axis else {"-": "+", "+": "-"}[side[0]] + axis
    return Surface({place(cell) for cell in surface.cells}, {
        (place(cell), other(side)): prefix + origin for (cell, side), origin in surface.origins.items()})


def copies(feature, tool, results):
    values = [value_of(formula, results) for formula in feature.formulas]
    counts = values[1::2]
    for count in counts:
        if count not in range(1, 17):
            raise Fails("count", count)
    if len(counts) == 2 and counts[0] * counts[1] > 16:
        raise Fails("count", counts[0] * counts[1])
    steps, made = feature.arguments[2:], []
    for i in range(counts[0]):
        for j in range(counts[1] if len(counts) == 2 else 1):
            vector = [0, 0, 0]
            vector[AXES.index(steps[0][0])] += i * values[0]
            if len(counts) == 2:
                vector[AXES.index(steps[1][0])] += j * values[2]
            prefix = f"{feature.name}/{i}/{j}/" if len(counts) == 2 else f"{feature.name}/{i}/"
            if (i, j) != (0, 0):
                made.append(shifted(tool, vector, prefix))
    return made


def push(feature, surface, plain, results):
    value = value_of(feature.formulas[0], results)
    squares = face_of(plain, feature.picks[0])
    axis, at, front = plane_of(squares)
    index, origin = AXES.index(axis), surface.origins[next(iter(squares))]
    if value == 0:
        return surface
    low, high = sorted((at, at + front * value))
    cells, below = set(), {}
    for square in squares:
        for k in range(low, high):
            cell = square[0][:index] + (k,) + square[0][index + 1:]
            cells.add(cell)
            below[cell] = square

    def origin_at(cell, side):
        if side[1] == axis:
            return origin
        # The segment of the face's square on this side.
        square = below[cell]
        segment = next(one for one in segments_of(square) if one in segments_of((square[0], side)))
        for one, other, kind in meetings_at(surface, segment):
            if square in (one, other):
                neighbor = other if square == one else one
                goes_on = kind == ("out" if value > 0 else "in")
                return surface.origins[neighbor] if goes_on else f"{feature.name}/wall/{surface.origins[neighbor]}"
        raise AssertionError
    tool = with_origins(cells, origin_at)
    return surface.joined(tool) if value > 0 else surface.cut(tool)


def keep(feature, surface, results):
    name, axis, _, side = feature.arguments
    at, index = value_of(feature.formulas[0], results), AXES.index(axis)
    cells = {cell for cell in surface.cells if (cell[index] >= at) == (side == 1)}
    return with_origins(cells, lambda cell, way: surface.origins.get((cell, way), f"{name}/cut"))


def plain_records(results, entries):
    """Tuples (status, surface ahead, surface behind)."""
    surface, tools, records = Surface(set(), {}), {}, []
    for feature, on in entries:
        ahead, told = surface, ("ok",)
        if not on:
            records.append((("off",), ahead, ahead))
            continue
        try:
            plain = Plain(ahead) if feature.picks else None
            if feature.kind in ("add", "cut"):
                tool = prism(feature, plain, results)
                surface = ahead.joined(tool) if feature.kind == "add" else ahead.cut(tool)
                tools[feature.name] = (feature.kind, tool)
            elif feature.kind in ("copy", "mirror"):
                if feature.source not in tools:
                    raise Fails("source", feature.source)
                kind, tool = tools[feature.source]
                if feature.kind == "copy":
                    made = copies(feature, tool, results)
                else:
                    made = [turned(tool, feature.arguments[2], value_of(feature.formulas[0], results), feature.name + "/")]
                for one in made:
                    surface = surface.joined(one) if kind == "add" else surface.cut(one)
                    if max(len(surface.lines(axis)) for axis in AXES) > 20:
                        raise Fails("lines", None)
            elif feature.kind == "push":
                surface = push(feature, ahead, plain, results)
            else:
                surface = keep(feature, ahead, results)
            if max(len(surface.lines(axis)) for axis in AXES) > 20:
                raise Fails("lines", None)
        except Fails as failure:
            told, surface = ("failed", *failure.args), ahead
            tools.pop(feature.name, None)
        records.append((told, ahead, surface))
    return records
