"""[40] to [42] and class Marked."""

import random
import unittest

from solidnames.marked import Marked, block, nothing
from solidnames.solids import Solid
from tests.cells import Surface, beside, cells_of, lines_of, random_box, surface_of
from tests.helpers import AXES, LIMIT, SIDES, any_values, caught, numbers, strings

UNIT = ((0, 0, 0), (1, 1, 1))


def agrees(test, marked, surface, low, high):
    """All that is told of the marked solid is that of the surface of plain cells."""
    found = surface_of(marked, low, high)
    test.assertEqual(found.cells, surface.cells)
    test.assertEqual(found.origins, surface.origins)
    test.assertEqual(marked.origins, tuple(sorted(set(surface.origins.values()))))
    for axis in AXES:
        test.assertEqual(marked.lines(axis), surface.lines(axis))
        test.assertEqual(marked.to_solid().lines(axis), lines_of(surface.cells, axis))


class BlockTest(unittest.TestCase):
    def test_block(self):
        for box in [((0, 0, 0), (2, 3, 1)), ((-2, 1, 0), (2, 2, 3)), ((-3, -3, -3), (-2, -1, -2))]:
            agrees(self, block(box, "pad"), Surface.of_box(box, "pad"), -4, 4)
        self.assertEqual(block(UNIT, "pad").origins, ("pad/+x", "pad/+y", "pad/+z", "pad/-x", "pad/-y", "pad/-z"))
        self.assertEqual(block(name="a", box=UNIT), block(UNIT, "a"))
        self.assertIsInstance(block(UNIT, "min"), Marked)

    def test_great_block(self):
        great = block(((-LIMIT,) * 3, (LIMIT,) * 3), "great")
        self.assertEqual(great.lines("y"), (-LIMIT, LIMIT))
        self.assertEqual(great.origin_of((3, -LIMIT, 10 ** 29), "-y"), "great/-y")
        self.assertEqual(great.to_solid(), Solid(((-LIMIT,) * 3, (LIMIT,) * 3)))

    def test_errors(self):
        for value in any_values() + strings() + numbers() + [((0, 0, 0), (1, 1, 0)), ((0, 0, 0), (1, 1, LIMIT + 1)), list(UNIT)]:
            error = caught(block, value, None)
            self.assertEqual((error[0], error[1] is value), ("InvalidBox", True), repr(value))
        for value in any_values() + numbers() + ["", "A", "abcdefghi", "a1", "a/b", " ", "a\n"]:
            for call in (lambda name: block(UNIT, name), block(UNIT, "a").within, nothing().within):
                error = caught(call, value)
                self.assertEqual((error[0], error[1] is value), ("InvalidName", True), repr(value))

    def test_nothing(self):
        empty = nothing()
        self.assertEqual([empty.to_solid(), empty.origins, empty.lines("x")], [Solid(), (), ()])
        pad = block(UNIT, "pad")
        self.assertEqual(empty.joined(pad), pad)
        self.assertEqual([empty.cut(pad), empty.met(pad), pad.met(empty), pad.cut(pad)], [empty] * 4)
        self.assertEqual([pad.cut(empty), pad.joined(empty)], [pad] * 2)
        self.assertEqual(empty.moved(10 ** 50, 0, 0).mirrored("z", -10 ** 50).within("a"), empty)


class OperationTest(unittest.TestCase):
    def test_example_of_the_interface(self):
        low, high = block(((0, 0, 0), (4, 4, 2)), "low"), block(((2, 0, 0), (6, 4, 2)), "high")
        both = low.joined(high)
        cut = both.cut(block(((3, 0, 1), (5, 4, 2)), "slot"))
        self.assertEqual([both.origin_of((2, 0, 0), "-y"), both.origin_of((5, 0, 0), "-y"), cut.origin_of((2, 0, 1), "+x")],
                         ['low/-y', 'high/-y', 'slot/-x'])

    def test_tools_in_every_position(self):
        """Apart, touching, flush, inside, equal, through: each pair of intervals on each axis."""
        box = ((0, 0, 0), (3, 3, 3))
        spans = [(-2, -1), (-2, 0), (-1, 1), (0, 1), (0, 3), (1, 2), (-1, 4), (2, 3), (2, 4), (3, 4), (5, 6)]
        source = random.Random(8)
        for first in spans:
            for second in spans:
                spans_of = [first, second, source.choice(spans)]
                source.shuffle(spans_of)
                tool = tuple(zip(*spans_of))
                for word in ("joined", "cut", "met"):
                    made = getattr(block(box, "old"), word)(block(tool, "tool"))
                    plain = getattr(Surface.of_box(box, "old"), word)(Surface.of_box(tool, "tool"))
                    agrees(self, made, plain, -3, 7)

    def test_operations_one_after_the_other(self):
        source = random.Random(9)
        for _ in range(40):
            first = random_box(source, 0, 6)
            marked, plain = block(first, "a"), Surface.of_box(first, "a")
            for name in "bcdefg":
                word = source.choice(["joined", "cut", "joined", "cut", "met"])
                box = random_box(source, 0, 6)
                tool, other = block(box, name), Surface.of_box(box, name)
                if source.random() < 0.3:
                    box = random_box(source, 0, 6)
                    tool, other = tool.cut(block(box, "t")), other.cut(Surface.of_box(box, "t"))
                if word == "met" and source.random() < 0.5:
                    continue
                before = marked.origins
                changed = getattr(marked, word)(tool)
                self.assertEqual(marked.origins, before)
                marked, plain = changed, getattr(plain, word)(other)
                agrees(self, marked, plain, 0, 6)

    def test_flush_surfaces_keep_the_old_origin(self):
        old = block(((0, 0, 0), (4, 4, 4)), "old")
        tool = block(((0, 0, 2), (4, 4, 6)), "tool")
        both = old.joined(tool)
        for z, name in [(0, "old"), (3, "old"), (4, "tool")]:
            self.assertEqual([both.origin_of((0, 0, z), side) for side in ("-x", "-y")], [name + "/-x", name + "/-y"])
        self.assertEqual(old.joined(tool).origin_of((0, 0, 5), "+z"), "tool/+z")
        self.assertEqual(old.met(tool).origin_of((0, 0, 3), "+z"), "old/+z")
        self.assertEqual(old.met(tool).origin_of((0, 0, 2), "-z"), "tool/-z")
        self.assertEqual(old.joined(old.within("again")), old)
        self.assertEqual(old.met(old.within("again")), old)
        # A flush face of a cut: the tool's surface only touches the old one.
        beside_it = block(((4, 0, 0), (6, 4, 4)), "tool")
        self.assertEqual(old.cut(beside_it), old)

    def test_surface_that_vanishes_and_comes_back(self):
        slab = block(((0, 0, 0), (4, 4, 2)), "slab")
        top = block(((1, 1, 2), (3, 3, 4)), "top")
        both = slab.joined(top)
        self.assertEqual(caught(both.origin_of, (1, 1, 1), "+z"), ("NotSurface", (1, 1, 1), "+z"))
        back = both.cut(top.within("again"))
        self.assertEqual(back.origin_of((1, 1, 1), "+z"), "again/top/-z")
        self.assertEqual(back.origin_of((0, 0, 1), "+z"), "slab/+z")
        self.assertEqual(back.to_solid(), slab.to_solid())
        self.assertNotEqual(back, slab)
        self.assertEqual([back.lines("x"), slab.lines("x"), back.lines("z")], [(0, 1, 3, 4), (0, 4), (0, 2)])
        hole = slab.cut(block(((1, 1, 0), (3, 3, 2)), "hole"))
        filled = hole.joined(block(((1, 1, 0), (3, 3, 2)), "plug"))
        self.assertEqual([filled.origin_of((1, 1, 1), "+z"), filled.to_solid()], ["plug/+z", slab.to_solid()])

    def test_touching_along_a_face(self):
        both = block(UNIT, "a").joined(block(((1, 0, 0), (2, 1, 1)), "b"))
        self.assertEqual(both.lines("x"), (0, 1, 2))
        self.assertEqual(both.to_solid().lines("x"), (0, 2))
        self.assertNotIn("a/+x", both.origins)
        self.assertNotIn("b/-x", both.origins)
        same = block(UNIT, "a").joined(block(((1, 0, 0), (2, 1, 1)), "a"))
        self.assertEqual(same, block(((0, 0, 0), (2, 1, 1)), "a"))
        self.assertEqual(same.lines("x"), (0, 2))

    def test_arguments_by_name(self):
        one, tool = block(UNIT, "a"), block(UNIT, "b")
        self.assertEqual([one.joined(tool=tool), one.met(tool=tool), one.cut(tool=tool)], [one, one, nothing()])


class TooManyTest(unittest.TestCase):
    def row(self, many, height=1):
        """Blocks of different names one behind another, many + 1 lines along x."""
        made = nothing()
        for k in range(many):
            made = made.joined(block(((k, 0, 0), (k + 1, 1, height)), chr(97 + k)))
        return made

    def test_lines_between_origins(self):
        row = self.row(19)
        self.assertEqual([len(row.lines("x")), row.to_solid().lines("x")], [20, (0, 19)])
        self.assertEqual(caught(self.row, 20), ("TooMany", 20))
        self.assertEqual(caught(row.joined, block(((19, 0, 0), (20, 1, 1)), "z")), ("TooMany", 20))
        self.assertEqual(len(row.joined(block(((19, 0, 0), (20, 1, 1)), "s")).lines("x")), 20)

    def test_only_the_result_counts(self):
        row = self.row(19)
        other = row.moved(19, 0, 0).within("other")
        self.assertEqual(caught(row.joined, other), ("TooMany", 20))
        self.assertEqual([row.met(other), row.cut(other)], [nothing(), row])
        self.assertEqual(len(row.met(other.moved(-10, 0, 0)).lines("x")), 11)
        comb = row
        for k in range(10):
            comb = comb.cut(block(((2 * k + 1, 0, 0), (2 * k + 2, 1, 1)), "cut"))
        self.assertEqual([len(comb.lines("x")), len(comb.to_solid().bodies())], [20, 10])

    def test_cut_and_met(self):
        plate = block(((0, 0, 0), (100, 9, 9)), "plate")
        for k in range(9):
            plate = plate.cut(block(((4 * k + 1, 0, 0), (4 * k + 3, 1, 1)), "slot"))
        self.assertEqual(len(plate.lines("x")), 20)
        self.assertEqual(caught(plate.cut, block(((90, 0, 0), (91, 1, 1)), "slot")), ("TooMany", 20))
        self.assertEqual(plate.met(block(((0, 0, 0), (99, 9, 9)), "room")).lines("x")[-1], 99)


class OriginOfTest(unittest.TestCase):
    MADE = block(((0, 0, 0), (4, 4, 2)), "low").joined(block(((2, 0, 0), (6, 4, 3)), "high"))

    def test_each_square(self):
        solid = self.MADE.to_solid()
        for cell in cells_of([((-2, -2, -2), (8, 6, 5))]):
            for side in SIDES:
                if cell in solid and beside(cell, side) not in solid:
                    self.assertIsInstance(self.MADE.origin_of(cell, side), str)
                else:
                    self.assertEqual(caught(self.MADE.origin_of, cell, side), ("NotSurface", cell, side))

    def test_any_values(self):
        for value in any_values() + strings() + numbers() + [(0, 0), (0, 0, 0.5), (10 ** 999, 0, 0), (-10 ** 999, 0, 0)]:
            error = caught(self.MADE.origin_of, value, "-x")
            self.assertEqual((error[0], error[1] is value, error[2]), ("NotSurface", True, "-x"))
            error = caught(self.MADE.origin_of, (0, 0, 0), value)
            self.assertEqual((error[0], error[1], error[2] is value), ("NotSurface", (0, 0, 0), True))
            self.assertEqual(caught(nothing().origin_of, value, value)[0], "NotSurface")
        for side in ["x", "+", "-", "", "+-x", "++x", "+x ", "x-", "-X"]:
            self.assertEqual(caught(self.MADE.origin_of, (0, 0, 0), side), ("NotSurface", (0, 0, 0), side))

    def test_by_name(self):
        self.assertEqual(self.MADE.origin_of(side="-x", cell=(0, 0, 0)), "low/-x")
        error = caught(self.MADE.origin_of, side="+x", cell=(0, 0, 0))
        self.assertEqual(error, ("NotSurface", (0, 0, 0), "+x"))


class ChangeTest(unittest.TestCase):
    def made(self, source):
        box = random_box(source, 0, 5)
        marked, plain = block(box, "a"), Surface.of_box(box, "a")
        for name in "bcd":
            box, word = random_box(source, 0, 5), source.choice(["joined", "cut", "joined"])
            marked = getattr(marked, word)(block(box, name))
            plain = getattr(plain, word)(Surface.of_box(box, name))
        return marked, plain

    def test_moved_and_mirrored(self):
        source = random.Random(10)
        for _ in range(25):
            marked, plain = self.made(source)
            step = tuple(source.randrange(-4, 5) for _ in range(3))

            def moved(cell):
                return tuple(a + b for a, b in zip(cell, step))
            agrees(self, marked.moved(*step), Surface({moved(cell) for cell in plain.cells}, {
                (moved(cell), side): origin for (cell, side), origin in plain.origins.items()}), -5, 10)
            self.assertEqual(marked.moved(*step).to_solid(), marked.to_solid().moved(*step))
            for index, axis in enumerate(AXES):
                at = source.randrange(0, 5)

                def turned(cell):
                    return cell[:index] + (2 * at - cell[index] - 1,) + cell[index + 1:]

                def turned_side(side):
                    return side if side[1] != axis else ("+" if side[0] == "-" else "-") + axis
                agrees(self, marked.mirrored(axis, at), Surface({turned(cell) for cell in plain.cells}, {
                    (turned(cell), turned_side(side)): origin for (cell, side), origin in plain.origins.items()}), -6, 11)
                self.assertEqual(marked.mirrored(axis, at).mirrored(axis, at), marked)

    def test_errors(self):
        pad = block(UNIT, "pad")
        for value in any_values() + strings():
            for call in (lambda v: pad.moved(v, None, LIMIT), lambda v: pad.moved(LIMIT, v, None),
                         lambda v: pad.moved(0, 0, v), lambda v: pad.mirrored("x", v), lambda v: nothing().moved(0, v, 0)):
                error = caught(call, value)
                self.assertEqual((error[0], error[1] is value), ("InvalidNumber", True))
        for value in any_values() + numbers() + ["", "X", "+x"]:
            for call in (pad.lines, nothing().lines, lambda axis: pad.mirrored(axis, None)):
                error = caught(call, value)
                self.assertEqual((error[0], error[1] is value), ("InvalidAxis", True))
        for axis in range(3):
            def step(number):
                return [number if k == axis else 0 for k in range(3)]
            self.assertEqual(pad.moved(*step(LIMIT - 1)).lines(AXES[axis]), (LIMIT - 1, LIMIT))
            self.assertEqual(caught(pad.moved, *step(LIMIT)), ("OutOfBounds",))
            self.assertEqual(caught(pad.moved, *step(-LIMIT - 1)), ("OutOfBounds",))
            self.assertEqual(caught(pad.moved, *step(10 ** 999)), ("OutOfBounds",))
            self.assertEqual(pad.mirrored(AXES[axis], LIMIT // 2).lines(AXES[axis]), (LIMIT - 1, LIMIT))
            self.assertEqual(caught(pad.mirrored, AXES[axis], LIMIT // 2 + 1), ("OutOfBounds",))
            self.assertEqual(pad.mirrored(AXES[axis], -LIMIT // 2 + 1).lines(AXES[axis]), (-LIMIT + 1, -LIMIT + 2))
            self.assertEqual(caught(pad.mirrored, AXES[axis], -LIMIT // 2), ("OutOfBounds",))

    def test_within(self):
        source = random.Random(11)
        marked, plain = self.made(source)
        agrees(self, marked.within("in").within("x"),
               Surface(plain.cells, {key: "x/in/" + origin for key, origin in plain.origins.items()}), 0, 5)

    def test_arguments_by_name(self):
        pad = block(((0, 0, 0), (1, 2, 3)), "pad")
        self.assertEqual(pad.moved(z=1, x=2, y=3), pad.moved(2, 3, 1))
        self.assertEqual(pad.mirrored(at=1, axis="y"), pad.mirrored("y", 1))
        self.assertEqual(pad.within(name="a"), pad.within("a"))
        self.assertEqual(pad.lines(axis="z"), (0, 3))


class EqualityTest(unittest.TestCase):
    def test_however_it_was_made(self):
        one = block(((0, 0, 0), (2, 2, 2)), "a").joined(block(((2, 0, 0), (4, 2, 2)), "a"))
        self.assertEqual(one, block(((0, 0, 0), (4, 2, 2)), "a"))
        pad = block(((0, 0, 0), (4, 4, 4)), "a")
        self.assertEqual(pad.joined(block(((9, 9, 9), (10, 10, 10)), "b")).met(pad), pad)
        room = block(((-9, -9, -9), (9, 9, 9)), "room")
        self.assertEqual(pad.met(room), pad)
        self.assertNotEqual(room.met(pad), nothing())
        self.assertEqual(room.met(pad), pad)

    def test_other_origins_or_cells(self):
        pad = block(UNIT, "a")
        self.assertNotEqual(pad, block(UNIT, "b"))
        self.assertNotEqual(pad, pad.moved(1, 0, 0))
        self.assertNotEqual(pad, pad.within("a"))
        self.assertNotEqual(pad, pad.mirrored("x", 0))
        self.assertNotEqual(pad, pad.to_solid())
        # The same lines, other cells.
        one, other = pad.joined(pad.moved(1, 1, 0)), pad.moved(1, 0, 0).joined(pad.moved(0, 1, 0))
        self.assertEqual([one.lines(axis) for axis in AXES], [other.lines(axis) for axis in AXES])
        self.assertNotEqual(one, other)
        for value in any_values()[:27] + strings() + numbers():
            self.assertFalse(pad == value)
            self.assertTrue(nothing() != value)


if __name__ == "__main__":
    unittest.main()
