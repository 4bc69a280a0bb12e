"""[20], [22], class Plane and prism."""

import random
import unittest

from solidnames.planes import Plane, prism
from tests.cells import Surface, beside, cells_of
from tests.helpers import AXES, LIMIT, SIDES, any_values, caught, numbers, square, strings
from tests.test_marked import agrees
from tests.test_shapes import frame
from tests.test_sketches import placed

DIRECTIONS = {"x": ("y", "z"), "y": ("z", "x"), "z": ("x", "y")}


def point(axis, at, u, v):
    table = {axis: at, DIRECTIONS[axis][0]: u, DIRECTIONS[axis][1]: v}
    return tuple(table[name] for name in AXES)


class PlaneTest(unittest.TestCase):
    def test_values(self):
        for axis in AXES:
            for front in (1, -1):
                plane = Plane(axis, -7, front)
                self.assertEqual([plane.axis, plane.at, plane.front, plane.directions], [axis, -7, front, DIRECTIONS[axis]])
                self.assertEqual(plane.point_at(3, 4), point(axis, -7, 3, 4))
                self.assertEqual(plane.point_at(v=3, u=4), point(axis, -7, 4, 3))
        self.assertEqual(Plane("x", 3), Plane(front=1, at=3, axis="x"))
        self.assertEqual(Plane("y", 0).point_at(10 ** 999, -1), (-1, 0, 10 ** 999))

    def test_errors_in_order(self):
        for value in any_values() + numbers() + ["", "X", "xy", "+x"]:
            error = caught(Plane, value, None, None)
            self.assertEqual((error[0], error[1] is value), ("InvalidAxis", True), repr(value))
        for value in any_values() + strings() + [LIMIT + 1, -LIMIT - 1, 10 ** 999]:
            error = caught(Plane, "y", value, None)
            self.assertEqual((error[0], error[1] is value), ("InvalidNumber", True), repr(value))
        for value in any_values() + strings() + [0, 2, -2, LIMIT]:
            error = caught(Plane, "z", LIMIT, value)
            self.assertEqual((error[0], error[1] is value), ("InvalidFront", True), repr(value))
        self.assertEqual([Plane("x", LIMIT).at, Plane("x", -LIMIT).at], [LIMIT, -LIMIT])

    def test_other_front(self):
        self.assertEqual(-Plane("x", 3, 1), Plane("x", 3, -1))
        self.assertEqual(-Plane("y", -3, -1), Plane("y", -3, 1))

    def test_forward(self):
        plane, back = Plane("z", 5), Plane("z", 5, -1)
        self.assertEqual([plane + 3, plane + -3, back + 3, back + -3],
                         [Plane("z", 8), Plane("z", 2), Plane("z", 2, -1), Plane("z", 8, -1)])
        self.assertEqual([(plane + (LIMIT - 5)).at, (back + (LIMIT + 5)).at, (plane + (-LIMIT - 5)).at], [LIMIT, -LIMIT, -LIMIT])
        self.assertEqual(plane, Plane("z", 5))
        for number in (LIMIT - 4, -LIMIT - 6, 10 ** 999):
            self.assertEqual(caught(lambda: plane + number), ("OutOfBounds",))
            self.assertEqual(caught(lambda: back + -number), ("OutOfBounds",))
        for value in any_values() + strings():
            error = caught(lambda: plane + value)
            self.assertEqual((error[0], error[1] is value), ("InvalidNumber", True), repr(value))

    def test_equality(self):
        plane = Plane("x", 3, -1)
        for other in [Plane("y", 3, -1), Plane("x", 4, -1), Plane("x", 3), *any_values(), *strings(), *numbers()]:
            self.assertFalse(plane == other)
            self.assertTrue(plane != other)


class PrismTest(unittest.TestCase):
    def expected(self, plane, shape, distance, name):
        """The prism as plain cells, square by square."""
        axis, end = plane.axis, plane.at + plane.front * distance
        low, high = min(plane.at, end), max(plane.at, end)
        flat = [cell for cell in [(u, v) for u in range(-9, 10) for v in range(-9, 10)] if cell in shape]
        cells = {point(axis, at, u, v): (at, u, v) for u, v in flat for at in range(low, high)}
        origins = {}
        for cell, (at, u, v) in cells.items():
            for side in SIDES:
                if beside(cell, side) in cells:
                    continue
                step = 1 if side[0] == "+" else -1
                if side[1] == axis:
                    origins[cell, side] = name + ("/start" if (at == plane.at if step < 0 else at + 1 == plane.at) else "/end")
                else:
                    other = (u + step, v) if side[1] == plane.directions[0] else (u, v + step)
                    origins[cell, side] = f"{name}/side/{shape.side_between((u, v), other)}"
        return Surface(set(cells), origins)

    def test_each_axis_front_and_distance(self):
        shapes = [frame(), frame(4, 5).moved(-3, 1), square(e="2", n="3"), placed(
            ["a", "b", "c", "d", "e", "f"], ["p", "q", "r", "s"],
            a=0, b=5, c=1, d=2, e=4, f=0, p=6, q=3, r=8, s=-2)[1]]
        for axis in AXES:
            for front in (1, -1):
                for distance in (3, -2):
                    for shape in shapes:
                        plane = Plane(axis, 1, front)
                        agrees(self, prism(plane, shape, distance, "post"), self.expected(plane, shape, distance, "post"), -9, 10)

    def test_origins_in_words(self):
        made = prism(Plane("z", 2), square(e="3", n="4"), 5, "base")
        self.assertEqual(made.origins, ("base/end", "base/side/e", "base/side/n", "base/side/s", "base/side/w", "base/start"))
        self.assertEqual([made.origin_of((0, 0, 2), "-z"), made.origin_of((0, 0, 6), "+z")], ["base/start", "base/end"])
        made = prism(Plane("z", 2, -1), square(e="3", n="4"), 5, "base")
        self.assertEqual([made.origin_of((0, 0, 1), "+z"), made.origin_of((0, 0, -3), "-z")], ["base/start", "base/end"])
        made = prism(Plane("y", 0), square(e="3", n="4"), 1, "base")
        self.assertEqual([made.lines(axis) for axis in AXES], [(0, 4), (0, 1), (0, 3)])
        self.assertEqual([made.origin_of((0, 0, 2), "+z"), made.origin_of((3, 0, 0), "+x")], ["base/side/e", "base/side/n"])

    def test_arguments_by_name(self):
        self.assertEqual(prism(name="a", distance=2, shape=square(), plane=Plane("x", 1)), prism(Plane("x", 1), square(), 2, "a"))

    def test_limits(self):
        shape = square()
        self.assertEqual(prism(Plane("x", 1), shape, LIMIT - 1, "a").lines("x"), (1, LIMIT))
        self.assertEqual(prism(Plane("x", 1), shape, -LIMIT - 1, "a").lines("x"), (-LIMIT, 1))
        self.assertEqual(prism(Plane("x", LIMIT, -1), shape, 2 * LIMIT, "a").lines("x"), (-LIMIT, LIMIT))
        for plane, distance in [(Plane("x", 1), LIMIT), (Plane("x", 1), -LIMIT - 2), (Plane("x", 1, -1), LIMIT + 2),
                                (Plane("x", LIMIT), 1), (Plane("x", -LIMIT), -1), (Plane("x", 0), 10 ** 999)]:
            self.assertEqual(caught(prism, plane, shape, distance, "a"), ("OutOfBounds",))
        far = shape.moved(LIMIT - 1, -LIMIT)
        self.assertEqual([prism(Plane("z", 0), far, 1, "a").lines(axis) for axis in AXES],
                         [(LIMIT - 1, LIMIT), (-LIMIT, -LIMIT + 1), (0, 1)])

    def test_errors_in_order(self):
        shape = square()
        for value in any_values() + strings() + [0]:
            error = caught(prism, Plane("x", LIMIT), shape, value, None)
            self.assertEqual((error[0], error[1] is value), ("InvalidNumber", True), repr(value))
        for value in any_values() + numbers() + ["", "A", "abcdefghi", "a/b", "a1", " a"]:
            error = caught(prism, Plane("x", LIMIT), shape, 1, value)
            self.assertEqual((error[0], error[1] is value), ("InvalidName", True), repr(value))
        self.assertEqual(caught(prism, Plane("x", LIMIT), shape, 1, "self"), ("OutOfBounds",))

    def test_sixteen_sides(self):
        source = random.Random(15)
        names = [chr(97 + k) for k in range(16)]
        stairs = {}
        for k in range(7):
            stairs[names[2 * k]] = k
            stairs[names[2 * k + 1]] = k + 1
        outline = names[:14] + [names[14], names[15]]
        stairs[names[14]], stairs[names[15]] = 8, 0
        for axis in source.sample(AXES, 2):
            word, shape = placed(outline, **stairs)
            self.assertEqual(word, "solved")
            made = prism(Plane(axis, 0), shape, 2, "stairs")
            self.assertEqual(made.to_solid().volume, shape.area * 2)
            self.assertEqual(made.to_solid().area, shape.area * 2 + shape.perimeter * 2)
            agrees(self, made, self.expected(Plane(axis, 0), shape, 2, "stairs"), -2, 10)

    def test_as_a_tool(self):
        plate = prism(Plane("z", 0), square(e="9", n="9"), 3, "plate")
        hole = prism(Plane("z", 3), square(s="2", w="2", e="5", n="4"), -3, "hole")
        made = plate.cut(hole)
        self.assertEqual(made.to_solid().volume, 243 - 18)
        self.assertEqual(made.origin_of((1, 2, 1), "+x"), "hole/side/w")
        self.assertNotIn("hole/start", made.origins)
        self.assertEqual(cells_of(made.to_solid().boxes()), cells_of(plate.to_solid().boxes()) - cells_of(hole.to_solid().boxes()))


if __name__ == "__main__":
    unittest.main()
