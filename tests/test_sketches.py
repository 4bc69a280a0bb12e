"""[14] to [17] and class Sketch."""

import random
import unittest

from solidnames.shapes import Shape
from solidnames.sketches import Sketch
from tests.helpers import LIMIT, any_values, caught, numbers, strings

BOX = ["s", "e", "n", "w"]
ZERO, RANGE = ("failed", "zero"), ("failed", "range")


def placed(*outlines, **positions):
    """The status of a sketch whose sides are at these positions."""
    dimensions = [(side, None, str(number)) for side, number in positions.items()]
    return Sketch(*outlines, dimensions=dimensions).solve({})


def rectangle(prefix, u0, v0, u1, v1):
    """An outline, and the positions of its sides."""
    sides = [prefix + letter for letter in "senw"]
    return sides, dict(zip(sides, (v0, u1, v1, u0)))


def placed_rectangles(*rows):
    made = [rectangle(*row) for row in rows]
    return placed(*[sides for sides, _ in made], **{k: p for _, table in made for k, p in table.items()})


class OutlineTest(unittest.TestCase):
    def test_values(self):
        sketch = Sketch(["d", "c", "b", "a"], ("h", "g", "f", "e"), dimensions=[("a", "c", "z + y"), ("d", None, " x*y ")])
        self.assertEqual(sketch.outlines, (("d", "c", "b", "a"), ("h", "g", "f", "e")))
        self.assertEqual(sketch.dimensions, (("a", "c", "z + y"), ("d", None, " x*y ")))
        self.assertEqual(sketch.sides, ("a", "b", "c", "d", "e", "f", "g", "h"))
        self.assertEqual(sketch.names, ("x", "y", "z"))
        for value in [sketch.outlines, sketch.outlines[0], sketch.dimensions, sketch.sides, sketch.names]:
            self.assertIsInstance(value, tuple)
        self.assertEqual([Sketch(BOX).dimensions, Sketch(BOX).names], [(), ()])

    def test_names_of_sides(self):
        self.assertEqual(Sketch(["min", "max", "self", "abcdefgh"]).sides, ("abcdefgh", "max", "min", "self"))

    def test_no_outlines(self):
        for value in any_values() + strings() + numbers() + [
                ["a", "b", "c"], ["a", "b"], ["a"], ["a", "b", "c", "d", "e"], ["a", "b", "c", "a"], ["a", "b", "c", "D"],
                ["a", "b", "c", ""], ["a", "b", "c", "abcdefghi"], ["a", "b", "c", "d1"], ["a", "b", "c", None],
                ["a", "b", "c", ["d"]], ["a", "b", "c", 4], "abcd", {"a": 1, "b": 2, "c": 3, "d": 4}, [BOX], [*BOX, "a", 1],
                ["a", "b", "c", {}], ("a", "b", "c", True)]:
            self.assertEqual(caught(Sketch, value), ("InvalidOutline", 0), repr(value))
            self.assertEqual(caught(Sketch, BOX, value), ("InvalidOutline", 1), repr(value))
            self.assertEqual(caught(Sketch, BOX, value, None, dimensions=None), ("InvalidOutline", 1), repr(value))
        self.assertEqual(caught(Sketch), ("InvalidOutline", 0))
        self.assertEqual(caught(Sketch, dimensions=None), ("InvalidOutline", 0))

    def test_repeated_names(self):
        self.assertEqual(caught(Sketch, BOX, ["a", "b", "c", "s"]), ("InvalidOutline", 1))
        self.assertEqual(caught(Sketch, BOX, ["a", "b", "c", "d"], ["x", "y", "z", "d"]), ("InvalidOutline", 2))
        self.assertEqual(caught(Sketch, BOX, ["a", "b", "c", "s"], None), ("InvalidOutline", 1))

    def test_sixteen_sides(self):
        names = [chr(97 + k) for k in range(26)]
        self.assertEqual(len(Sketch(names[:16]).sides), 16)
        self.assertEqual(len(Sketch(names[:10], names[10:16]).sides), 16)
        self.assertEqual(caught(Sketch, names[:18]), ("InvalidOutline", 0))
        self.assertEqual(caught(Sketch, names[:10], names[10:18]), ("InvalidOutline", 1))
        self.assertEqual(caught(Sketch, names[:16], names[16:20]), ("InvalidOutline", 1))
        self.assertEqual(caught(Sketch, names[:4], names[4:8], names[8:12], names[12:18], None), ("InvalidOutline", 3))
        self.assertEqual(caught(Sketch, names[:12], names[12:16], names[16:20]), ("InvalidOutline", 2))

    def test_lists_are_copied(self):
        outline, dimensions = list(BOX), [("s", None, "0"), ("w", None, "a")]
        sketch = Sketch(outline, dimensions=dimensions)
        same = Sketch(tuple(BOX), dimensions=tuple(dimensions))
        outline[0] = "q"
        dimensions.pop()
        self.assertEqual(sketch, same)
        self.assertEqual([sketch.outlines, sketch.dimensions], [(tuple(BOX),), (("s", None, "0"), ("w", None, "a"))])
        self.assertEqual(caught(sketch.solve, {}), ("UnknownName", "a"))

    def test_equality(self):
        other = ["a", "b", "c", "d"]
        one = Sketch(BOX, other, dimensions=[("s", None, "0"), ("w", None, "1")])
        self.assertEqual(one, Sketch(tuple(BOX), other, dimensions=(("s", None, "0"), ("w", None, "1"))))
        for changed in [Sketch(other, BOX, dimensions=one.dimensions), Sketch(BOX, other),
                        Sketch(BOX, other, dimensions=one.dimensions[::-1]), Sketch(BOX, dimensions=one.dimensions),
                        Sketch(BOX, other, dimensions=[("s", None, "0 "), ("w", None, "1")]),
                        Sketch(BOX[2:] + BOX[:2], other, dimensions=one.dimensions)]:
            self.assertNotEqual(one, changed)
        for value in any_values() + strings() + numbers():
            self.assertFalse(one == value)


class DimensionTest(unittest.TestCase):
    def test_no_dimensions(self):
        good = ("s", None, "0")
        wrong = any_values() + strings() + numbers() + [
            ["s", None, "0"], ("s", None), ("s", None, "0", None), ("s", "s", "0"), ("s", "e", "0"), ("e", "n", "0"),
            ("q", None, "0"), ("s", "q", "0"), (None, "s", "0"), (None, None, "0"), ("s", None, ""), ("s", None, "1 +"),
            ("s", None, 0), ("s", None, None), ("s", None, "1" * 32), ("s", "", "0"), ("s", 0, "0"), ("s", ["n"], "0"),
            (["s"], None, "0"), ("s", {}, "0"), (("s",), "n", "0"), ("s", False, "0"), ("s", "n", ["0"]), ("S", None, "0"),
            ("s", "n", "n " + "+ 1" * 33), "s-0", {"s": 1, "n": 2, "0": 3}]
        for value in wrong:
            self.assertEqual(caught(Sketch, BOX, dimensions=[value]), ("InvalidDimension", 0), repr(value))
            self.assertEqual(caught(Sketch, BOX, dimensions=[good, good, value, None]), ("InvalidDimension", 2), repr(value))

    def test_no_list_of_dimensions(self):
        for value in any_values() + strings() + numbers():
            if not isinstance(value, (list, tuple)):
                self.assertEqual(caught(Sketch, BOX, dimensions=value), ("InvalidDimension", -1), repr(value))
        self.assertEqual(Sketch(BOX, dimensions=[]), Sketch(BOX, dimensions=()))

    def test_correct_dimensions(self):
        sketch = Sketch(BOX, ["a", "b", "c", "d"], dimensions=[
            ("s", "n", "a"), ("s", "a", "1"), ("e", "d", " 2 "), ("w", None, "-3"), ("s", "n", "b"), ("n", "s", "c")])
        self.assertEqual(sketch.names, ("a", "b", "c"))

    def test_forty(self):
        good = [("s", None, "0")] * 40
        self.assertEqual(len(Sketch(BOX, dimensions=good).dimensions), 40)
        self.assertEqual(caught(Sketch, BOX, dimensions=good + good[:1]), ("TooMany", 40))
        self.assertEqual(caught(Sketch, BOX, dimensions=good + [None]), ("InvalidDimension", 40))
        self.assertEqual(caught(Sketch, BOX, BOX, dimensions=good + [None]), ("InvalidOutline", 1))


class SolveTest(unittest.TestCase):
    SOUTH_WEST = [("s", None, "0"), ("w", None, "0")]

    def status(self, *dimensions, **results):
        return Sketch(BOX, dimensions=list(dimensions)).solve(results)

    def test_unknown_names_come_first(self):
        self.assertEqual(caught(self.status, ("s", None, "1 // 0"), ("w", None, "b + a")), ("UnknownName", "b"))
        self.assertEqual(caught(self.status, ("s", None, "d"), ("s", None, "c"), d=ZERO), ("UnknownName", "c"))
        self.assertEqual(caught(self.status, ("s", None, "z"), ("w", None, "a")), ("UnknownName", "z"))

    def test_results_by_name(self):
        self.assertEqual(Sketch(BOX).solve(results={}), ("loose", ("e", "n", "s", "w")))

    def test_formula(self):
        self.assertEqual(self.status(("s", None, "0"), ("s", None, "1"), ("w", None, "a"), ("n", None, "1 // 0"), a=RANGE),
                         ("formula", 2, "range"))
        self.assertEqual(self.status(("s", None, "9" * 31)), ("formula", 0, "range"))
        self.assertEqual(self.status(("s", None, "0"), ("n", "s", "a"), a=ZERO), ("formula", 1, "zero"))

    def test_clash(self):
        zero, one = ("s", None, "0"), ("s", None, "1")
        self.assertEqual(self.status(zero, one), ("clash", (0,), 1))
        self.assertEqual(self.status(("w", None, "3"), zero, ("n", "s", "2"), ("e", "w", "1"), ("n", None, "3")),
                         ("clash", (1, 2), 4))
        self.assertEqual(self.status(("w", None, "3"), zero, ("n", None, "2"), ("s", "n", "-3")), ("clash", (1, 2), 3))
        self.assertEqual(self.status(("n", "s", "4"), ("s", "n", "4")), ("clash", (0,), 1))
        self.assertEqual(self.status(zero, zero, one, ("s", None, "2")), ("clash", (0,), 2))
        self.assertEqual(self.status(("w", None, "1"), one, ("w", None, "2"), zero), ("clash", (0,), 2))

    def test_redundant_dimensions(self):
        dimensions = [("s", None, "0"), ("n", "s", "2"), ("n", None, "2"), ("w", None, "0"), ("e", "w", "a"), ("w", "e", "-a"),
                      ("s", "n", "-2"), ("e", None, "3")]
        self.assertEqual(self.status(*dimensions, a=("value", 3))[0], "solved")
        self.assertEqual(self.status(*dimensions, a=("value", 4)), ("clash", (3, 4), 7))

    def test_paths_without_redundant_dimensions(self):
        outline = ["a", "p", "b", "q", "c", "r", "d", "t"]
        dimensions = [("a", None, "0"), ("b", "a", "1"), ("b", None, "1"), ("c", "b", "1"), ("d", "c", "1"), ("c", None, "2"),
                      ("p", None, "3"), ("d", "a", "4")]
        self.assertEqual(Sketch(outline, dimensions=dimensions).solve({}), ("clash", (1, 3, 4), 7))
        backwards = [("d", "c", "1"), ("b", "a", "1"), ("c", "b", "1"), ("p", "q", "0"), ("a", "d", "-3"), ("a", "d", "3")]
        self.assertEqual(Sketch(outline, dimensions=backwards).solve({}), ("clash", (0, 1, 2), 5))

    def test_level_and_upright_are_apart(self):
        status = self.status(("s", None, "0"), ("w", None, "5"), ("n", None, "1"), ("e", None, "6"))
        self.assertEqual(status[0], "solved")
        self.assertEqual(status[1].positions, {"e": 6, "n": 1, "s": 0, "w": 5})

    def test_loose(self):
        self.assertEqual(self.status(), ("loose", ("e", "n", "s", "w")))
        self.assertEqual(self.status(*self.SOUTH_WEST), ("loose", ("e", "n")))
        self.assertEqual(self.status(("n", "s", "1"), ("w", None, "0"), ("e", "w", "1")), ("loose", ("n", "s")))
        self.assertEqual(self.status(("n", "s", "1"), ("w", None, str(LIMIT)), ("e", "w", "1")), ("loose", ("n", "s")))
        self.assertEqual(self.status(("n", "s", "1"), ("s", "n", "1"), ("w", None, "0")), ("clash", (0,), 1))

    def test_range(self):
        bound = str(LIMIT)
        self.assertEqual(self.status(*self.SOUTH_WEST, ("e", None, bound), ("n", None, "-" + bound))[0], "solved")
        self.assertEqual(self.status(*self.SOUTH_WEST, ("e", None, bound), ("n", None, bound))[0], "solved")
        far = [("s", None, bound), ("n", "s", "1"), ("w", None, "-" + bound), ("e", "w", "-1")]
        self.assertEqual(self.status(*far), ("range", "e"))
        self.assertEqual(self.status(*far[:3], ("e", "w", "0")), ("range", "n"))
        # On the way a position may be beyond LIMIT.
        outline = ["a", "p", "b", "q", "c", "r", "d", "t"]
        steps = [("a", None, bound), ("b", "a", bound), ("c", "b", "-" + bound)]
        self.assertEqual(Sketch(outline, dimensions=[*steps, ("b", None, "1")]).solve({}), ("clash", (0, 1), 3))
        rest = [("d", None, "0"), ("p", None, "1"), ("q", None, "2"), ("r", None, "3"), ("t", None, "0")]
        self.assertEqual(Sketch(outline, dimensions=steps + rest).solve({}), ("range", "b"))

    def test_several_causes(self):
        bound = str(LIMIT)
        crossing = [("s", None, "0"), ("w", None, "0"), ("e", None, "0"), ("n", None, "1")]
        self.assertEqual(self.status(*crossing), ("crossing", "e", "w"))
        far = [*crossing[:3], ("n", "s", bound), ("s", "n", "-" + bound)]
        self.assertEqual(self.status(*far), ("crossing", "e", "w"))
        self.assertEqual(self.status(("s", None, bound), *crossing[1:3], ("n", "s", "1")), ("range", "n"))
        self.assertEqual(self.status(("s", None, bound), *crossing[1:2], ("n", "s", "1")), ("loose", ("e",)))
        self.assertEqual(self.status(("s", None, bound), ("s", None, "1"), ("n", "s", "1")), ("clash", (0,), 1))
        self.assertEqual(self.status(("s", None, "1"), ("s", None, "2"), ("n", "s", "1 // 0")), ("formula", 2, "zero"))

    def test_solved_any_way_around(self):
        for u0, u1, v0, v1 in [(0, 3, 0, 2), (3, 0, 0, 2), (0, 3, 2, 0), (3, 0, 2, 0)]:
            word, shape = placed(BOX, s=v0, n=v1, w=u0, e=u1)
            self.assertEqual([word, shape.rectangles, shape.perimeter], ["solved", ((0, 0, 3, 2),), 10])
            self.assertIsInstance(shape, Shape)


class CrossingTest(unittest.TestCase):
    def test_lengths(self):
        self.assertEqual(placed(BOX, s=0, n=1, e=2, w=2), ("crossing", "e", "w"))
        self.assertEqual(placed(BOX, s=1, n=1, e=2, w=3), ("crossing", "e", "e"))
        self.assertEqual(placed(BOX, s=1, n=1, e=3, w=3), ("crossing", "e", "e"))
        self.assertEqual(placed(["n", "e", "a", "w"], a=1, n=1, e=2, w=3), ("crossing", "a", "n"))
        self.assertEqual(placed(["n", "z", "m", "y"], n=0, m=1, z=2, y=2), ("crossing", "m", "m"))

    def test_a_point_a_side_and_a_crossing(self):
        big = ("a", 0, 0, 4, 4)
        for other, pair in [
                (("b", 4, 4, 6, 6), ("ae", "bs")), (("b", 4, 0, 6, 4), ("ae", "be")), (("b", 4, 1, 6, 3), ("ae", "bn")),
                (("b", 1, 1, 4, 3), ("ae", "be")), (("b", 2, 2, 6, 3), ("ae", "bn")), (("b", 0, 0, 4, 4), ("ae", "be")),
                (("b", 1, 4, 3, 6), ("an", "be")), (("b", -2, -2, 0, 0), ("as", "be")), (("b", 5, 0, 6, 4), None),
                (("b", 1, 1, 3, 3), None), (("b", -1, -1, 5, 5), None), (("b", 2, 5, 3, 6), None)]:
            status = placed_rectangles(big, other)
            if pair is None:
                self.assertEqual(status[0], "solved", other)
            else:
                points = {name: self.points(name, {"a": big, "b": other}) for name in
                          [p + letter for p in "ab" for letter in "senw"]}
                self.assertEqual(status, ("crossing", *self.first_pair(points)), other)

    def points(self, name, table):
        _, u0, v0, u1, v1 = table[name[0]]
        u0, u1 = {"e": (u1, u1), "w": (u0, u0)}.get(name[1], (u0, u1))
        v0, v1 = {"n": (v1, v1), "s": (v0, v0)}.get(name[1], (v0, v1))
        return {(u, v) for u in range(u0, u1 + 1) for v in range(v0, v1 + 1)}

    def first_pair(self, points):
        return min((one, other) for one in points for other in points
                   if one < other and points[one] & points[other]
                   and not (one[0] == other[0] and {one[1], other[1]} in [set("se"), set("en"), set("nw"), set("sw")]))

    def test_the_last_side_and_the_first_follow(self):
        self.assertEqual(placed(["a", "b", "c", "d"], a=0, b=1, c=1, d=0)[0], "solved")
        self.assertEqual(placed(["d", "b", "c", "a"], d=0, b=1, c=1, a=0)[0], "solved")

    def test_random_outlines_against_points(self):
        source = random.Random(12)
        solved = 0
        for _ in range(1500):
            many = source.choice([4, 6, 8])
            names = source.sample("abcdefghijkl", many)
            places = {name: source.randrange(5) for name in names}
            outlines = [names] if many < 8 or source.random() < 0.5 else [names[:4], names[4:]]
            points, next_to = {}, set()
            for outline in outlines:
                for k, name in enumerate(outline):
                    before, after = outline[k - 1], outline[(k + 1) % len(outline)]
                    next_to |= {(name, before), (before, name)}
                    along = range(min(places[before], places[after]), max(places[before], places[after]) + 1)
                    points[name] = {(t, places[name]) if k % 2 == 0 else (places[name], t) for t in along}
            pairs = [(one, other) for one in points for other in points
                     if (one == other and len(points[one]) == 1)
                     or (one < other and (one, other) not in next_to and points[one] & points[other])]
            status = placed(*outlines, **places)
            if pairs:
                self.assertEqual(status, ("crossing", *min(pairs)))
            else:
                solved += 1
                self.assertEqual(status[0], "solved")
        self.assertGreater(solved, 50)


class FreedomTest(unittest.TestCase):
    def freedom(self, *dimensions):
        return Sketch(BOX, ["a", "b", "c", "d"], dimensions=list(dimensions)).freedom

    def test_freedom(self):
        self.assertEqual(self.freedom(), 8)
        self.assertEqual(self.freedom(("s", None, "0")), 7)
        self.assertEqual(self.freedom(("s", None, "0"), ("s", None, "1")), 7)
        self.assertEqual(self.freedom(("s", "n", "1 // 0")), 7)
        self.assertEqual(self.freedom(("s", "n", "0"), ("n", "s", "q")), 7)
        self.assertEqual(self.freedom(("s", "n", "0"), ("n", "a", "q"), ("a", "s", "1")), 6)
        self.assertEqual(self.freedom(("s", "n", "0"), ("c", "a", "q"), ("a", "s", "1"), ("c", None, "4")), 4)
        self.assertEqual(self.freedom(*[(side, None, "0") for side in "senwabcd"]), 0)
        self.assertEqual(self.freedom(*[(side, None, "0") for side in "snac"]), 4)

    def test_no_freedom_without_loose_sides(self):
        source = random.Random(13)
        level, upright = ["s", "n", "a", "c"], ["e", "w", "b", "d"]
        for _ in range(300):
            dimensions = []
            for _ in range(source.randrange(10)):
                one, other = source.sample(source.choice([level, upright]), 2)
                dimensions.append((one, source.choice([other, None]), "0"))
            groups = {side: {side} for side in [*level, *upright, None]}
            for one, other, _ in dimensions:
                joined = groups[one] | groups[other]
                for side in joined:
                    groups[side] = joined
            loose = {frozenset(group) for group in groups.values() if None not in group}
            sketch = Sketch(BOX, ["a", "b", "c", "d"], dimensions=dimensions)
            self.assertEqual(sketch.freedom, len(loose))
            status = sketch.solve({})
            if loose:
                self.assertEqual(status, ("loose", tuple(sorted(side for group in loose for side in group))))
            else:
                self.assertEqual(status[0], "crossing")


if __name__ == "__main__":
    unittest.main()
