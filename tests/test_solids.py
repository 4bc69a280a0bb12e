"""[30] to [32] and class Solid."""

import random
import unittest

from solidnames.solids import Solid
from tests.cells import area_of, bodies_of, cells_of, hollows_of, lines_of, random_box, solid_of
from tests.helpers import AXES, LIMIT, any_values, caught, numbers, strings

UNIT = ((0, 0, 0), (1, 1, 1))


def combs(many):
    """Three solids, each of bars across one axis, 2 * many lines there."""
    top = 2 * many - 1
    solids = []
    for axis in range(3):
        bars = []
        for k in range(many):
            low, high = [0, 0, 0], [top, top, top]
            low[axis], high[axis] = 2 * k, 2 * k + 1
            bars.append((tuple(low), tuple(high)))
        solids.append(Solid(*bars))
    return solids


def exclusive(one, other):
    return (one | other) - (one & other)


class SolidTest(unittest.TestCase):
    def check(self, solid, cells):
        """All that is told of a solid is that of the cells."""
        self.assertEqual(solid, solid_of(cells))
        self.assertEqual(solid.volume, len(cells))
        self.assertEqual(solid.area, area_of(cells))
        self.assertIs(bool(solid), bool(cells))
        for axis in AXES:
            self.assertEqual(solid.lines(axis), lines_of(cells, axis))
        boxes = solid.boxes()
        self.assertIsInstance(boxes, list)
        self.assertEqual(sum(len(cells_of([box])) for box in boxes), len(cells))
        self.assertEqual(cells_of(boxes), cells)
        bounds = None
        if cells:
            bounds = (tuple(min(c[k] for c in cells) for k in range(3)), tuple(max(c[k] for c in cells) + 1 for k in range(3)))
        self.assertEqual(solid.bounds, bounds)

    def test_example_of_the_interface(self):
        s = Solid(((0, 0, 0), (4, 4, 2))) - Solid(((1, 1, 0), (3, 3, 1)))
        self.assertEqual(
            [s.volume, s.area, s.bounds, s.lines("z"), len(s.hollows()), (1, 1, 0) in s, (1, 1, 1) in s],
            [28, 72, ((0, 0, 0), (4, 4, 2)), (0, 1, 2), 0, False, True])

    def test_against_cells(self):
        source = random.Random(4)
        for _ in range(150):
            one, other = ([random_box(source, -3, 4) for _ in range(source.randrange(4))] for _ in range(2))
            first, second = Solid(*one), Solid(*other)
            cells, others = cells_of(one), cells_of(other)
            self.check(first, cells)
            self.check(first | second, cells | others)
            self.check(first - second, cells - others)
            self.check(first & second, cells & others)
            self.assertEqual(first == second, cells == others)
            for cell in cells_of([((-4, -4, -4), (5, 5, 5))]):
                self.assertEqual(cell in first, cell in cells)

    def test_no_cells(self):
        empty = Solid()
        self.check(empty, set())
        self.assertEqual([empty.bodies(), empty.hollows(), empty.boxes(), empty.lines("x")], [[], [], [], ()])
        self.assertEqual(empty, Solid(UNIT) - Solid(((-5, -5, -5), (5, 5, 5))))
        self.assertEqual(empty.moved(10 ** 40, -10 ** 40, 0), empty)
        self.assertEqual(empty.mirrored("y", 10 ** 40), empty)
        self.assertEqual(empty.split("z", 3), (empty, empty))

    def test_equality_however_it_was_made(self):
        whole = Solid(((0, 0, 0), (4, 4, 4)))
        halves = Solid(((0, 0, 0), (4, 4, 2))) | Solid(((0, 0, 2), (4, 4, 4)))
        self.assertEqual(whole, halves)
        self.assertEqual(whole, Solid(((0, 0, 0), (3, 4, 4)), ((1, 0, 0), (4, 4, 4)), ((0, 0, 0), (4, 4, 4))))
        self.assertEqual(whole, (whole | Solid(((9, 9, 9), (10, 10, 10)))) & whole)
        self.assertEqual(whole.boxes(), halves.boxes())
        self.assertNotEqual(whole, whole.moved(1, 0, 0))
        self.assertNotEqual(whole, whole - Solid(UNIT))
        # The same lines, other cells.
        self.assertNotEqual(solid_of({(0, 0, 0), (1, 1, 0)}), solid_of({(1, 0, 0), (0, 1, 0)}))
        for value in any_values()[:27] + strings() + numbers():
            self.assertFalse(whole == value)
            self.assertTrue(whole != value)
            self.assertFalse(Solid() == value)

    def test_great_coordinates(self):
        cube = Solid(((-LIMIT,) * 3, (LIMIT,) * 3))
        self.assertEqual([cube.volume, cube.area], [8 * LIMIT ** 3, 24 * LIMIT ** 2])
        self.assertTrue((LIMIT - 1, -LIMIT, 0) in cube)
        self.assertFalse((LIMIT, 0, 0) in cube)
        shell = cube - Solid(((-LIMIT + 1,) * 3, (LIMIT - 1,) * 3))
        self.assertEqual([len(shell.hollows()), shell.hollows()[0].volume], [1, (2 * LIMIT - 2) ** 3])
        self.assertEqual(shell.bounds, ((-LIMIT,) * 3, (LIMIT,) * 3))

    def test_membership_of_any_value(self):
        cube = Solid(((-9, -9, -9), (9, 9, 9)))
        for value in any_values() + strings() + numbers() + [(0, 0), (0, 0, None), (0, 0, "0"), (0, 0, (0,)), (10 ** 999, 0, 0)]:
            self.assertFalse(value in cube, repr(value))
        self.assertTrue((0, 0, 0) in cube)

    def test_returned_lists_are_new(self):
        solid = Solid(UNIT, ((2, 0, 0), (3, 1, 1)))
        for made in (solid.boxes, solid.bodies):
            made().clear()
            self.assertEqual(len(made()), 2)


class InvalidBoxTest(unittest.TestCase):
    def test_any_values(self):
        wrong = any_values() + strings() + numbers() + [
            (UNIT,), UNIT + UNIT, (UNIT[0],), list(UNIT), ((0, 0, 0), (1, 1, 0)), ((0, 0, 0), (1, 0, 1)),
            ((0, 0, 0), (0, 1, 1)), ((1, 0, 0), (0, 1, 1)), ((0, 0), (1, 1)), ((0, 0, 0, 0), (1, 1, 1, 1)),
            ((0, 0, 0), (1, 1, True)), ((False, 0, 0), (1, 1, 1)), ([0, 0, 0], (1, 1, 1)), ((0, 0, 0), [1, 1, 1]),
            ((0, 0, "0"), (1, 1, 1)), ((0, 0, None), (1, 1, 1)), ((0, 0, 0), (1, 1, LIMIT + 1)),
            ((0, -LIMIT - 1, 0), (1, 1, 1)), ((10 ** 999,) * 3, (10 ** 999 + 1,) * 3), ((0, 0, 0), None)]
        for value in wrong:
            for arguments in ([value], [UNIT, value], [UNIT, UNIT, value, None], [value, 3]):
                error = caught(Solid, *arguments)
                self.assertEqual((error[0], len(error), error[1] is value), ("InvalidBox", 2, True), repr(value))
        Solid(((-LIMIT,) * 3, (LIMIT,) * 3), ((LIMIT - 1,) * 3, (LIMIT,) * 3))

    def test_axes(self):
        solid = Solid(UNIT)
        for value in any_values() + numbers() + ["", "X", "xy", "w", "+x", " x"]:
            for call in (solid.lines, lambda axis: solid.split(axis, None), lambda axis: solid.mirrored(axis, "0")):
                error = caught(call, value)
                self.assertEqual((error[0], error[1] is value), ("InvalidAxis", True), repr(value))


class ChangeTest(unittest.TestCase):
    SOLID = Solid(((0, 0, 0), (4, 4, 2)), ((1, 2, -3), (2, 5, 7)))

    def test_against_cells(self):
        source = random.Random(5)
        for _ in range(60):
            boxes = [random_box(source, -3, 4) for _ in range(source.randrange(1, 4))]
            solid, cells = Solid(*boxes), cells_of(boxes)
            x, y, z = (source.randrange(-9, 9) for _ in range(3))
            self.assertEqual(solid.moved(x, y, z), solid_of({(a + x, b + y, c + z) for a, b, c in cells}))
            for index, axis in enumerate(AXES):
                def turned(cell):
                    return cell[:index] + (2 * x - cell[index] - 1,) + cell[index + 1:]
                self.assertEqual(solid.mirrored(axis, x), solid_of({turned(cell) for cell in cells}))
                at = source.randrange(-5, 6)
                below, above = solid.split(axis, at)
                self.assertEqual(below, solid_of({cell for cell in cells if cell[index] < at}))
                self.assertEqual(above, solid_of({cell for cell in cells if cell[index] >= at}))

    def test_names_of_arguments(self):
        solid = self.SOLID
        self.assertEqual(solid.moved(z=1, y=2, x=3), solid.moved(3, 2, 1))
        self.assertEqual(solid.mirrored(at=1, axis="y"), solid.mirrored("y", 1))
        self.assertEqual(solid.split(at=1, axis="y"), solid.split("y", 1))
        self.assertEqual(solid.lines(axis="y"), solid.lines("y"))
        self.assertIsInstance(solid.split("x", 1), tuple)

    def test_invalid_numbers(self):
        for value in any_values() + strings():
            for call in (lambda v: self.SOLID.moved(v, None, LIMIT), lambda v: self.SOLID.moved(LIMIT, v, None),
                         lambda v: self.SOLID.moved(0, LIMIT, v), lambda v: self.SOLID.mirrored("x", v),
                         lambda v: self.SOLID.split("x", v), lambda v: Solid().moved(v, 0, 0)):
                error = caught(call, value)
                self.assertEqual((error[0], error[1] is value), ("InvalidNumber", True), repr(value))

    def test_bounds(self):
        cube = Solid(UNIT)
        for axis in range(3):
            def step(number):
                return [number if k == axis else 0 for k in range(3)]
            self.assertEqual(cube.moved(*step(LIMIT - 1)).bounds[1][axis], LIMIT)
            self.assertEqual(cube.moved(*step(-LIMIT)).bounds[0][axis], -LIMIT)
            for number in (LIMIT, -LIMIT - 1, 10 ** 999, -10 ** 999):
                self.assertEqual(caught(cube.moved, *step(number)), ("OutOfBounds",))
        far = Solid(((LIMIT - 2, 0, 0), (LIMIT, 1, 1)))
        self.assertEqual(far.mirrored("x", 0).bounds, ((-LIMIT, 0, 0), (-LIMIT + 2, 1, 1)))
        self.assertEqual(far.mirrored("x", LIMIT - 1), far)
        for at in (LIMIT, -1, 10 ** 999):
            self.assertEqual(caught(far.mirrored, "x", at), ("OutOfBounds",))
        self.assertEqual(far.split("x", 10 ** 999), (far, Solid()))
        self.assertEqual(far.split("x", -10 ** 999), (Solid(), far))
        self.assertEqual(far.split("x", LIMIT), (far, Solid()))
        self.assertEqual(far.split("x", LIMIT - 2), (Solid(), far))
        self.assertEqual([part.volume for part in far.split("x", LIMIT - 1)], [1, 1])


class TooManyTest(unittest.TestCase):
    def bars(self, many, axis):
        return [tuple(zip(*[(2 * k, 2 * k + 1) if index == axis else (0, 1) for index in range(3)])) for k in range(many)]

    def test_twenty_and_twenty_two(self):
        for axis in range(3):
            self.assertEqual(len(Solid(*self.bars(10, axis)).lines(AXES[axis])), 20)
            self.assertEqual(caught(Solid, *self.bars(11, axis)), ("TooMany", 20))
            self.assertEqual(caught(Solid, *self.bars(11, axis), None), ("InvalidBox", None))
            one, other = Solid(*self.bars(10, axis)), Solid(*self.bars(11, axis)[10:])
            self.assertEqual(caught(lambda: one | other), ("TooMany", 20))

    def test_twenty_one(self):
        bars = Solid(*self.bars(10, 0))
        step = Solid(((18, 0, 1), (20, 1, 2)))
        self.assertEqual(len((bars | Solid(((18, 0, 1), (19, 1, 2)))).lines("x")), 20)
        self.assertEqual(caught(lambda: bars | step), ("TooMany", 20))
        stairs = Solid(*[((k, 0, 0), (k + 1, k + 1, 1)) for k in range(19)])
        self.assertEqual([len(stairs.lines("x")), len(stairs.lines("y"))], [20, 20])
        self.assertEqual(caught(Solid, *[((k, 0, 0), (k + 1, k + 1, 1)) for k in range(20)]), ("TooMany", 20))
        whole = Solid(((0, 0, 0), (30, 1, 1)))
        holes = Solid(*[((2 * k + 1, 0, 0), (2 * k + 2, 1, 1)) for k in range(9)])
        self.assertEqual(len((whole - holes).lines("x")), 20)
        self.assertEqual(caught(lambda: whole - holes - Solid(((28, 0, 0), (29, 1, 1)))), ("TooMany", 20))

    def test_only_the_result_counts(self):
        many = Solid(*self.bars(12, 0), ((0, 0, 0), (5, 1, 1)), ((10, 0, 0), (18, 1, 1)))
        self.assertLessEqual(len(many.lines("x")), 20)
        self.assertEqual(Solid(*self.bars(23, 0), ((0, 0, 0), (45, 1, 1))).lines("x"), (0, 45))
        odd, even = Solid(*self.bars(10, 0)), Solid(*self.bars(10, 0)).moved(30, 0, 0)
        self.assertEqual(odd & even, Solid())
        self.assertEqual(odd - even, odd)
        self.assertEqual(caught(lambda: odd | even), ("TooMany", 20))
        self.assertEqual(odd.moved(1, 0, 0) | odd, Solid(((0, 0, 0), (20, 1, 1))))

    def test_split_between_twenty_lines(self):
        bars = Solid(*[tuple(zip((100 * k, 100 * k + 50), (0, 1), (0, 1))) for k in range(10)])
        below, above = bars.split("x", 925)
        self.assertEqual([len(below.lines("x")), len(above.lines("x"))], [20, 2])

    def test_many_boxes_far_apart(self):
        source = random.Random(6)
        for _ in range(3):
            boxes = [random_box(source, -10 ** 6, 10 ** 6) for _ in range(24)]
            self.assertIn(caught(Solid, *boxes), [("TooMany", 20), None])


class BodyTest(unittest.TestCase):
    def check(self, solid, cells, low, high):
        self.assertEqual(solid.bodies(), [solid_of(body) for body in bodies_of(cells)])
        self.assertEqual(solid.hollows(), [solid_of(body) for body in hollows_of(cells, low, high)])

    def test_against_cells(self):
        source = random.Random(7)
        bodies = hollows = 0
        for _ in range(120):
            cells = cells_of([((0, 0, 0), (5, 5, 5))])
            density = source.choice([0.2, 0.7, 0.85])
            cells = {cell for cell in cells if source.random() < density}
            solid = solid_of(cells)
            self.check(solid, cells, 0, 5)
            bodies += len(solid.bodies()) > 1
            hollows += len(solid.hollows()) > 1
        self.assertGreater(min(bodies, hollows), 20)

    def test_touching_along_a_segment_or_in_a_point(self):
        for other in [(1, 1, 0), (1, 0, 1), (0, 1, 1), (1, 1, 1), (1, -1, 0), (1, -1, -1)]:
            cells = {(0, 0, 0), other}
            solid = solid_of(cells)
            self.assertEqual([body.volume for body in solid.bodies()], [1, 1])
            self.check(solid, cells, -1, 2)
            outside = Solid(((-2, -2, -2), (3, 3, 3))) - solid
            self.assertEqual(outside.hollows(), solid.bodies())

    def test_rooms_in_one_another(self):
        solid, shells = Solid(), []
        for k in range(5):
            shells.append(Solid(((k * 2,) * 3, (30 - k * 2,) * 3)) - Solid(((k * 2 + 1,) * 3, (29 - k * 2,) * 3)))
            solid = solid | shells[-1]
        self.assertEqual([len(solid.lines(axis)) for axis in AXES], [20, 20, 20])
        self.assertEqual(solid.bodies(), shells)
        self.assertEqual([hollow.bounds for hollow in solid.hollows()],
                         [((k * 2 + 1,) * 3, (29 - k * 2,) * 3) for k in range(5)])

    def test_order(self):
        far = Solid(((5, 0, 0), (6, 1, 1)), ((0, 5, 0), (9, 6, 1)), ((0, 2, 3), (1, 3, 4)), ((0, 2, -LIMIT), (1, 3, 0)))
        self.assertEqual([body.bounds[0] for body in far.bodies()],
                         [(0, 2, -LIMIT), (0, 2, 3), (0, 5, 0), (5, 0, 0)])

    def test_a_body_whose_least_cell_is_not_at_its_bounds(self):
        bent = [((0, 5, 0), (3, 6, 1)), ((2, 0, 0), (3, 6, 1))]
        solid = Solid(*bent, ((0, 2, 0), (1, 3, 1)))
        self.assertEqual(solid.bodies(), [Solid(((0, 2, 0), (1, 3, 1))), Solid(*bent)])

    def test_twenty_lines_on_each_axis(self):
        x, y, z = combs(10)
        grains = (x & y & z).bodies()
        self.assertEqual(len(grains), 1000)
        self.assertEqual([grain.bounds[0] for grain in grains],
                         [(a, b, c) for a in range(0, 20, 2) for b in range(0, 20, 2) for c in range(0, 20, 2)])
        board = exclusive(exclusive(x, y), z)
        self.assertEqual([board.volume, len(board.bodies())], [3430, 3430])
        self.assertEqual(len(board.hollows()), 17 ** 3 // 2 + 1)


if __name__ == "__main__":
    unittest.main()
