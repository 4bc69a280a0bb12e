"""[18] and class Shape."""

import random
import unittest

from solidnames.shapes import Shape
from solidnames.sketches import Sketch
from tests.helpers import LIMIT, any_values, caught, numbers, strings
from tests.test_sketches import BOX, placed, placed_rectangles

FRAME = Sketch(["bottom", "right", "top", "left"], ["lower", "east", "upper", "west"], dimensions=[
    ("left", None, "0"), ("right", "left", "w"), ("bottom", None, "-2"), ("top", "bottom", "h"),
    ("west", "left", "1"), ("right", "east", "1"), ("lower", "bottom", "1"), ("top", "upper", "1")])


def frame(w=6, h=4):
    return FRAME.solve({"w": ("value", w), "h": ("value", h)})[1]


def cells_inside(sides, low, high):
    """Cells with an odd number of upright sides to their left; sides is (index, position, start, end)."""
    return {(u, v) for u in range(low, high) for v in range(low, high)
            if sum(odd and place <= u and start <= v < end for odd, place, start, end in sides) % 2}


class ShapeTest(unittest.TestCase):
    def test_example_of_the_interface(self):
        word, shape = FRAME.solve({"w": ("value", 6), "h": ("value", 4)})
        self.assertEqual(
            [word, shape.positions["east"], shape.rectangles, shape.area, shape.ends("lower")],
            ["solved", 5, ((0, -2, 6, -1), (0, -1, 1, 1), (5, -1, 6, 1), (0, 1, 6, 2)), 16, ((1, -1), (5, -1))])
        self.assertEqual(shape.perimeter, 20 + 12)

    def test_positions(self):
        shape = frame()
        self.assertEqual(list(shape.positions.items()), [
            ("bottom", -2), ("east", 5), ("left", 0), ("lower", -1), ("right", 6), ("top", 2), ("upper", 1), ("west", 1)])
        shape.positions.clear()
        self.assertEqual(len(shape.positions), 8)

    def test_ends(self):
        shape = frame()
        ends = {"bottom": ((0, -2), (6, -2)), "right": ((6, -2), (6, 2)), "top": ((0, 2), (6, 2)), "left": ((0, -2), (0, 2)),
                "east": ((5, -1), (5, 1)), "upper": ((1, 1), (5, 1)), "west": ((1, -1), (1, 1))}
        for side, points in ends.items():
            self.assertEqual(shape.ends(side=side), points)
        for value in any_values() + strings() + numbers() + ["Top", "to", "topp"]:
            error = caught(shape.ends, value)
            self.assertEqual((error[0], error[1] is value), ("UnknownSide", True), repr(value))

    def test_outlines_beside_and_in_one_another(self):
        word, shape = placed_rectangles(("a", 0, 0, 10, 10), ("b", 2, 2, 8, 8), ("c", 4, 4, 6, 6), ("d", 12, 2, 14, 4))
        self.assertEqual(word, "solved")
        self.assertEqual(shape.rectangles, (
            (0, 0, 10, 2), (0, 2, 2, 4), (8, 2, 10, 4), (12, 2, 14, 4), (0, 4, 2, 6), (4, 4, 6, 6), (8, 4, 10, 6),
            (0, 6, 2, 8), (8, 6, 10, 8), (0, 8, 10, 10)))
        self.assertEqual([shape.area, shape.perimeter], [100 - 36 + 4 + 4, 40 + 24 + 8 + 8])
        for cell, there in [((0, 0), True), ((2, 2), False), ((4, 4), True), ((6, 5), False), ((12, 3), True), ((11, 3), False),
                            ((-1, 0), False), ((10, 0), False), ((9, 9), True)]:
            self.assertEqual(cell in shape, there)

    def test_great_coordinates(self):
        word, shape = placed_rectangles(("a", -LIMIT, -LIMIT, LIMIT, LIMIT), ("b", 1 - LIMIT, 0, LIMIT - 1, 1))
        self.assertEqual([word, shape.area], ["solved", 4 * LIMIT ** 2 - 2 * (LIMIT - 1)])
        self.assertTrue((LIMIT - 1, 0) in shape)
        self.assertFalse((LIMIT - 2, 0) in shape)
        self.assertEqual(shape.side_between((LIMIT - 1, 5), (LIMIT, 5)), "ae")
        self.assertEqual(shape.side_between((0, 0), (0, 1)), "bn")
        self.assertEqual(shape.ends("as"), ((-LIMIT, -LIMIT), (LIMIT, -LIMIT)))

    def test_random_outlines_against_cells(self):
        source = random.Random(14)
        solved = 0
        while solved < 120:
            many = source.choice([4, 6, 8, 10])
            names = source.sample("abcdefghijklmn", many)
            places = {name: source.randrange(6) for name in names}
            outlines = [names] if many < 8 or source.random() < 0.3 else [names[:4], names[4:]]
            word, *rest = placed(*outlines, **places)
            if word != "solved":
                continue
            solved += 1
            self.check(rest[0], outlines, places)

    def check(self, shape, outlines, places):
        sides, named = [], {}
        for outline in outlines:
            for k, name in enumerate(outline):
                start, end = sorted([places[outline[k - 1]], places[outline[(k + 1) % len(outline)]]])
                sides.append((k % 2, places[name], start, end))
                for t in range(start, end):
                    named[(places[name], t, 1) if k % 2 else (t, places[name], 0)] = name
        cells = cells_inside(sides, -1, 7)
        self.assertEqual({(u, v) for u in range(-1, 7) for v in range(-1, 7) if (u, v) in shape}, cells)
        self.assertEqual([shape.area, shape.perimeter], [len(cells), len(named)])
        self.assertEqual(shape.rectangles, tuple(sorted(shape.rectangles, key=lambda r: (r[1], r[0]))))
        covered = [(u, v) for u0, v0, u1, v1 in shape.rectangles for u in range(u0, u1) for v in range(v0, v1)]
        self.assertEqual(sorted(covered), sorted(cells))
        levels = sorted({place for odd, place, _, _ in sides if not odd})
        for u0, v0, u1, v1 in shape.rectangles:
            self.assertEqual(levels.index(v1), levels.index(v0) + 1)
            self.assertFalse({(u0 - 1, v0), (u1, v0)} & cells)
        for u in range(-1, 7):
            for v in range(-1, 7):
                for one, other in [((u, v), (u + 1, v)), ((u + 1, v), (u, v))]:
                    self.assertEqual(shape.side_between(one, other), named.get((u + 1, v, 1)))
                for one, other in [((u, v), (u, v + 1)), ((u, v + 1), (u, v))]:
                    self.assertEqual(shape.side_between(one, other), named.get((u, v + 1, 0)))

    def test_side_between_other_values(self):
        shape = placed(BOX, s=0, n=4, w=0, e=4)[1]
        self.assertEqual(shape.side_between(other=(0, 0), cell=(-1, 0)), "w")
        for one, other in [((0, 0), (0, 0)), ((-1, 0), (1, 0)), ((-1, -1), (0, 0)), ((-1, 0), (0, 1)), ((1, 1), (2, 1)),
                           ((-1, 0), (0, 0, 0)), ((10 ** 999, 0), (10 ** 999 + 1, 0)), ((-2, 0), (-1, 0)), ((-1, 4), (0, 4))]:
            self.assertIsNone(shape.side_between(one, other))
        for value in any_values() + strings() + numbers():
            self.assertIsNone(shape.side_between(value, (0, 0)))
            self.assertIsNone(shape.side_between((-1, 0), value))
            self.assertIsNone(shape.side_between(value, value))

    def test_membership_of_any_value(self):
        shape = placed(BOX, s=-9, n=9, w=-9, e=9)[1]
        for value in any_values() + strings() + numbers() + [(0, 0, 0), (0,), (0, None), ("0", "0"), (0, (0,)), (10 ** 999, 0)]:
            self.assertFalse(value in shape, repr(value))
        self.assertTrue((0, 0) in shape)


class MovedTest(unittest.TestCase):
    def test_moved(self):
        shape = frame()
        moved = shape.moved(10, -3)
        self.assertEqual(moved.positions, {"bottom": -5, "east": 15, "left": 10, "lower": -4, "right": 16, "top": -1,
                                           "upper": -2, "west": 11})
        self.assertEqual(moved.rectangles, tuple((a + 10, b - 3, c + 10, d - 3) for a, b, c, d in shape.rectangles))
        self.assertEqual([moved.area, moved.perimeter, moved.ends("lower")], [16, 32, ((11, -4), (15, -4))])
        self.assertEqual(moved.moved(v=3, u=-10), shape)
        self.assertEqual(shape.positions["left"], 0)
        self.assertIsInstance(moved, Shape)

    def test_bounds(self):
        shape = frame()
        self.assertEqual(shape.moved(LIMIT - 6, LIMIT - 2).positions["right"], LIMIT)
        self.assertEqual(shape.moved(-LIMIT, -LIMIT + 2).positions["bottom"], -LIMIT)
        for u, v in [(LIMIT - 5, 0), (-LIMIT - 1, 0), (0, LIMIT - 1), (0, 1 - LIMIT), (10 ** 999, 0), (0, -10 ** 999)]:
            self.assertEqual(caught(shape.moved, u, v), ("OutOfBounds",))

    def test_invalid_numbers(self):
        for value in any_values() + strings():
            for arguments in [(value, None), (LIMIT, value), (0, value)]:
                error = caught(frame().moved, *arguments)
                self.assertEqual((error[0], error[1] is value), ("InvalidNumber", True), repr(value))

    def test_equality(self):
        self.assertEqual(frame(), frame())
        self.assertNotEqual(frame(), frame(7))
        self.assertNotEqual(frame(), frame().moved(0, 1))
        one = placed(["a", "b", "c", "d"], a=0, b=1, c=1, d=0)[1]
        self.assertEqual(one, placed(["a", "b", "c", "d"], d=0, c=1, b=1, a=0)[1])
        self.assertNotEqual(one, placed(["c", "d", "a", "b"], a=0, b=1, c=1, d=0)[1])
        for value in any_values()[:-1] + strings() + numbers():
            self.assertFalse(one == value)
            self.assertTrue(one != value)


if __name__ == "__main__":
    unittest.main()
