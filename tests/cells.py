"""Solids and surfaces as plain sets of unit cells, to compare with."""

from solidnames.solids import Solid
from tests.helpers import AXES, SIDES

STEPS = {"-x": (-1, 0, 0), "+x": (1, 0, 0), "-y": (0, -1, 0), "+y": (0, 1, 0), "-z": (0, 0, -1), "+z": (0, 0, 1)}
OPPOSITE = {"-x": "+x", "+x": "-x", "-y": "+y", "+y": "-y", "-z": "+z", "+z": "-z"}


def beside(cell, side):
    return tuple(number + step for number, step in zip(cell, STEPS[side]))


def cells_of(boxes):
    return {(x, y, z) for low, high in boxes for x in range(low[0], high[0]) for y in range(low[1], high[1])
            for z in range(low[2], high[2])}


def solid_of(cells):
    return Solid(*[(cell, tuple(number + 1 for number in cell)) for cell in cells])


def random_box(source, low, high):
    one = [source.randrange(low, high) for _ in range(3)]
    return tuple(one), tuple(source.randrange(number + 1, high + 1) for number in one)


def lines_of(cells, axis):
    index, found = AXES.index(axis), set()
    for cell in cells:
        if beside(cell, "-" + axis) not in cells:
            found.add(cell[index])
        if beside(cell, "+" + axis) not in cells:
            found.add(cell[index] + 1)
    return tuple(sorted(found))


def area_of(cells):
    return sum(beside(cell, side) not in cells for cell in cells for side in SIDES)


def bodies_of(cells):
    """The bodies as sets, by their least cells."""
    left, found = set(cells), []
    while left:
        body, todo = set(), [min(left)]
        while todo:
            cell = todo.pop()
            if cell in left:
                left.remove(cell)
                body.add(cell)
                todo.extend(beside(cell, side) for side in SIDES)
        found.append(body)
    return sorted(found, key=min)


def hollows_of(cells, low, high):
    """The hollows of cells that lie between low and high."""
    room = cells_of([((low - 1,) * 3, (high + 1,) * 3)]) - set(cells)
    return [body for body in bodies_of(room) if (low - 1,) * 3 not in body]


class Surface:
    """Cells, and a dict from (cell, side) to the origin."""

    def __init__(self, cells, origins):
        self.cells = cells
        self.origins = origins

    @classmethod
    def of_box(cls, box, name):
        cells = cells_of([box])
        return cls(cells, {(cell, side): f"{name}/{side}" for cell in cells for side in SIDES
                           if beside(cell, side) not in cells})

    def changed(self, cells, tool):
        origins = {}
        for cell in cells:
            for side in SIDES:
                other = beside(cell, side)
                if other in cells:
                    continue
                for key in ((cell, side), (other, OPPOSITE[side])):
                    if (cell, side) in self.origins:
                        origins[cell, side] = self.origins[cell, side]
                    elif key in tool.origins:
                        origins[cell, side] = tool.origins[key]
        return Surface(cells, origins)

    def joined(self, tool):
        return self.changed(self.cells | tool.cells, tool)

    def cut(self, tool):
        return self.changed(self.cells - tool.cells, tool)

    def met(self, tool):
        return self.changed(self.cells & tool.cells, tool)

    def lines(self, axis):
        index = AXES.index(axis)
        found = set(lines_of(self.cells, axis))
        for (cell, side), origin in self.origins.items():
            after = beside(cell, "+" + axis)
            if side[1] != axis and self.origins.get((after, side), origin) != origin:
                found.add(cell[index] + 1)
        return tuple(sorted(found))


def surface_of(marked, low, high):
    """A Marked whose cells lie between low and high, asked square by square."""
    solid = marked.to_solid()
    cells = {cell for cell in cells_of([((low,) * 3, (high,) * 3)]) if cell in solid}
    return Surface(cells, {(cell, side): marked.origin_of(cell, side) for cell in cells for side in SIDES
                           if beside(cell, side) not in cells})


def moved_cells(cells, side, many):
    """The cells, moved to a side by so many units."""
    return {tuple(number + many * step for number, step in zip(cell, STEPS[side])) for cell in cells}


def points_of(cells):
    """All points of cells with integer coordinates."""
    return {(x + i, y + j, z + k) for x, y, z in cells for i in (0, 1) for j in (0, 1) for k in (0, 1)}


def way_of(cells, other, side, far=40):
    """By how many units other can be moved to the side past cells, None if it leaves."""
    for many in range(1, far):
        if moved_cells(other, side, many) & cells:
            return many - 1
    return None


def random_cells(source, many, size):
    """The cells of some random boxes."""
    return cells_of([random_box(source, 0, size) for _ in range(many)])
