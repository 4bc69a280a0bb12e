"""[43] to [45], [50], [51]: faces, edges and corners."""

import random
import unittest

from solidnames.edges import Corner, Edge, corners, edges
from solidnames.faces import Face, faces
from solidnames.marked import block, nothing
from solidnames.solids import Solid
from tests.cells import Surface, cells_of, random_box
from tests.helpers import AXES, LIMIT, SIDES, any_values, strings
from tests.plainfaces import agree


def made_of(cells, name="a"):
    """The marked solid and the surface of these cells; the origin of each square is the name and the side."""
    marked, surface = nothing(), Surface(set(), {})
    for cell in sorted(cells):
        box = (cell, tuple(number + 1 for number in cell))
        marked, surface = marked.joined(block(box, name)), surface.joined(Surface.of_box(box, name))
    return marked, surface


def random_made(source, size, many, names):
    """A marked solid and its surface, after some operations."""
    box = random_box(source, 0, size)
    marked, surface = block(box, names[0]), Surface.of_box(box, names[0])
    for _ in range(many):
        box, word, name = random_box(source, 0, size), source.choice(["joined", "cut"]), source.choice(names)
        marked, surface = getattr(marked, word)(block(box, name)), getattr(surface, word)(Surface.of_box(box, name))
    return marked, surface


def turned(cells, many):
    """The cells with the axes in another order."""
    return {cell[many:] + cell[:many] for cell in cells}


class FaceTest(unittest.TestCase):
    def test_block(self):
        made = faces(block(((1, 2, 3), (4, 6, 8)), "pad"))
        self.assertEqual([face.origin for face in made], ["pad/+x", "pad/+y", "pad/+z", "pad/-x", "pad/-y", "pad/-z"])
        self.assertTrue(all(isinstance(face, Face) for face in made))
        one = made[5]
        self.assertEqual([one.side, one.at, one.area, one.least], ["-z", 3, 12, (1, 2, 3)])
        self.assertEqual([one.around, one.number, one.many], [("pad/+x", "pad/+y", "pad/-x", "pad/-y"), 0, 1])
        self.assertEqual(one.name, ("face", "pad/-z", ("pad/+x", "pad/+y", "pad/-x", "pad/-y"), 0, 1))
        self.assertEqual(one.layer, Solid(((1, 2, 3), (4, 6, 4))))
        self.assertEqual([made[0].at, made[0].least, made[0].layer], [4, (4, 2, 3), Solid(((3, 2, 3), (4, 6, 8)))])

    def test_without_cells(self):
        self.assertEqual([faces(nothing()), edges(nothing()), corners(nothing())], [[], [], []])

    def test_random_solids(self):
        source = random.Random(20)
        for count in range(160):
            marked, surface = random_made(source, source.choice([2, 3, 4, 6]), source.randrange(9), "abc"[:count % 3 + 1])
            agree(self, marked, surface)

    def test_random_cells(self):
        """Many cells that touch in segments and points."""
        source = random.Random(21)
        room = sorted(cells_of([((0, 0, 0), (3, 3, 2))]))
        for _ in range(60):
            marked, surface = nothing(), Surface(set(), {})
            for cell in source.sample(room, source.randrange(2, 15)):
                box, name = (cell, tuple(number + 1 for number in cell)), source.choice("ab")
                marked, surface = marked.joined(block(box, name)), surface.joined(Surface.of_box(box, name))
            agree(self, marked, surface)

    def test_holes_and_rooms(self):
        for axis in range(3):
            def box(low, high):
                return tuple(low[axis:] + low[:axis]), tuple(high[axis:] + high[:axis])
            outer = box((0, 0, 0), (5, 5, 4))
            for inner in [box((1, 1, 0), (3, 3, 4)), box((1, 1, 1), (3, 4, 2)), box((2, 2, 3), (5, 3, 4)), box((0, 0, 2), (2, 2, 4))]:
                marked, surface = block(outer, "a").cut(block(inner, "b")), Surface.of_box(outer, "a").cut(Surface.of_box(inner, "b"))
                agree(self, marked, surface)

    def test_seams(self):
        low, high = ((0, 0, 0), (4, 4, 2)), ((2, 0, 0), (6, 4, 2))
        both = block(low, "low").joined(block(high, "high"))
        plain = agree(self, both, Surface.of_box(low, "low").joined(Surface.of_box(high, "high")))
        self.assertEqual(len(plain.faces), 10)
        self.assertEqual(sorted(edge.kind for edge in edges(both)), ["out"] * 16 + ["seam"] * 4)
        seam = [edge for edge in edges(both) if edge.kind == "seam" and edge.start[2] == edge.end[2] == 2]
        self.assertEqual([(edge.start, edge.end) for edge in seam], [((4, 0, 2), (4, 4, 2))])
        self.assertEqual([name[1] for name in seam[0].faces], ["high/+z", "low/+z"])

    def test_pieces_of_one_origin_in_one_plane(self):
        cells = cells_of([((0, 0, 0), (5, 2, 2))]) - cells_of([((2, 0, 1), (3, 2, 2))])
        for many in range(3):
            marked, surface = made_of(turned(cells, many))
            plain = agree(self, marked, surface)
            side = "+" + AXES[(2 - many) % 3]
            pieces = [face for face in faces(marked) if face.side == side]
            # Two on the top, and the floor of the slot between them.
            self.assertEqual([(face.number, face.many) for face in pieces], [(0, 3), (1, 3), (2, 3)])
            self.assertEqual(len(plain.faces), 10)
            self.assertEqual([face.least for face in pieces], sorted(face.least for face in pieces))

    def test_a_piece_that_meets_another_one_of_its_origin(self):
        first, second = ((0, 0, 0), (4, 4, 1)), ((0, 0, 1), (2, 4, 2))
        marked = block(first, "a").joined(block(second, "b")).joined(block(((2, 0, 1), (3, 4, 2)), "a"))
        surface = Surface.of_box(first, "a").joined(Surface.of_box(second, "b")).joined(Surface.of_box(((2, 0, 1), (3, 4, 2)), "a"))
        agree(self, marked, surface)
        made_by = {face.side + str(face.at): face for face in faces(marked) if face.origin[0] == "a"}
        self.assertIn("a/-y", made_by["+z1"].around)
        stairs, plain = made_of({(0, 0, 0)}, "a"), None
        # All squares have one origin: each face has its own origin around it.
        one = Surface({(0, 0, 0)}, {((0, 0, 0), side): "t/s" for side in SIDES})
        marked = stairs[0]
        same = type(marked)(marked.coordinates, marked.filled, [[label and "t/s" for label in labels] for labels in marked.squares])
        plain = agree(self, same, one)
        self.assertEqual(sorted(plain.names), [("face", "t/s", ("t/s",), number, 6) for number in range(6)])
        # By least points, then by sides in the order of the document.
        order = {face.number: face.side for face in faces(same)}
        self.assertEqual([order[number] for number in range(6)], ["-x", "-y", "-z", "+z", "+y", "+x"])

    def test_same_least_point_other_sides(self):
        source = random.Random(22)
        for _ in range(30):
            cells = source.sample(sorted(cells_of([((0, 0, 0), (2, 2, 2))])), source.randrange(1, 8))
            marked, surface = made_of(cells)
            same = Surface(surface.cells, {square: "t/s" for square in surface.origins})
            again = type(marked)(marked.coordinates, marked.filled,
                                 [[label and "t/s" for label in labels] for labels in marked.squares])
            agree(self, again, same)

    def test_great_coordinates(self):
        great = block(((-LIMIT,) * 3, (LIMIT,) * 3), "great").cut(block(((0, 0, 5), (LIMIT,) * 3), "slot"))
        made = {face.origin: face for face in faces(great)}
        self.assertEqual([made["slot/-z"].at, made["slot/-z"].area, made["slot/-z"].side], [5, LIMIT ** 2, "+z"])
        self.assertEqual(made["great/-x"].area, 4 * LIMIT ** 2)
        self.assertEqual(made["great/+z"].area, 3 * LIMIT ** 2)
        self.assertEqual(made["great/+x"].layer.bounds, ((LIMIT - 1, -LIMIT, -LIMIT), (LIMIT, LIMIT, LIMIT)))
        self.assertEqual(made["great/-y"].layer.bounds, ((-LIMIT, -LIMIT, -LIMIT), (LIMIT, 1 - LIMIT, LIMIT)))
        self.assertIn((LIMIT, 0, 5), [edge.end for edge in edges(great)])

    def test_equality(self):
        one = block(((0, 0, 0), (2, 2, 2)), "a")
        for call in (faces, edges, corners):
            self.assertEqual(call(one), call(block(((0, 0, 0), (2, 2, 2)), "a")))
            self.assertNotEqual(call(one), call(one.moved(1, 0, 0)))
            self.assertNotEqual(call(one), call(one.within("b")))
            for item in call(one):
                self.assertEqual([other == item for other in call(one)].count(True), 1)
                for value in any_values() + strings() + [item.name]:
                    self.assertFalse(item == value)
        # The same names and cells, but the other side.
        high = block(((0, 0, 0), (2, 2, 1)), "a")
        turned_over = high.mirrored("z", 0).moved(0, 0, 1)
        self.assertNotEqual(faces(high)[2], faces(turned_over)[2])
        self.assertEqual([face.layer for face in faces(high)], [face.layer for face in faces(turned_over)])

    def test_equality_of_single_values(self):
        one = block(((0, 0, 0), (2, 2, 2)), "a")
        twins = one.joined(one.moved(0, 0, 9))
        for call in (faces, edges, corners):
            # The same places, but other names: there are two of each now.
            self.assertEqual([item == other for item in call(one) for other in call(twins)].count(True), 0)
        # The same names, but only the ends or only the starts of some edges are the same.
        names = {edge.name for edge in edges(one)}
        for other in (block(((0, 0, 0), (2, 2, 3)), "a"), block(((0, 0, -1), (2, 2, 2)), "a")):
            self.assertEqual({edge.name for edge in edges(other)}, names)
            tall = [edge for edge in edges(other) if edge.start[2] != edge.end[2]]
            self.assertEqual([edge == item for edge in tall for item in edges(one)].count(True), 0)
        # The same name and cells, another side.
        sides = [face.side for face in faces(one)]
        turned_over = [face.side for face in faces(one.mirrored("x", 1))]
        self.assertNotEqual(sides, turned_over)

    def test_returned_lists_are_new(self):
        pad = block(((0, 0, 0), (2, 2, 2)), "a")
        for call in (faces, edges, corners):
            call(marked=pad).clear()
            self.assertTrue(call(pad))


class EdgeTest(unittest.TestCase):
    def test_block(self):
        made = edges(block(((0, 0, 0), (2, 3, 4)), "a"))
        self.assertEqual([len(made), {edge.kind for edge in made}], [12, {"out"}])
        self.assertTrue(all(isinstance(edge, Edge) for edge in made))
        one = [edge for edge in made if [name[1] for name in edge.faces] == ["a/+x", "a/-z"]][0]
        self.assertEqual([one.start, one.end], [(2, 0, 0), (2, 3, 0)])
        self.assertEqual(one.name, ("edge", *one.faces, 0, 1))

    def test_kinds(self):
        cells = cells_of([((0, 0, 0), (4, 4, 4))]) - cells_of([((2, 2, 0), (4, 4, 4))])
        kinds = {(edge.start, edge.end): edge.kind for edge in edges(made_of(cells)[0])}
        self.assertEqual([kinds[(2, 2, 0), (2, 2, 4)], kinds[(2, 4, 0), (2, 4, 4)], kinds[(0, 0, 0), (0, 0, 4)]], ["in", "out", "out"])

    def test_two_faces_that_meet_in_several_edges(self):
        cells = cells_of([((0, 0, 0), (6, 2, 2))]) - cells_of([((1, 0, 1), (2, 1, 2)), ((4, 0, 1), (5, 1, 2))])
        for many in range(3):
            marked, surface = made_of(turned(cells, many))
            agree(self, marked, surface)
            counts = {edge.faces: edge.name[4] for edge in edges(marked)}
            self.assertEqual(max(counts.values()), 3)

    def test_one_row_with_two_kinds(self):
        cells = {(0, 0, 0), (0, 0, 1), (0, 1, 1), (1, 0, 1), (0, 0, -1), (0, 1, -1), (0, 2, -1), (0, 2, 0), (0, 2, 1),
                 (-1, 0, 0), (-1, 0, 1), (-1, 0, 2), (0, 0, 2), (1, 0, 2)}
        for many in range(3):
            marked, surface = made_of(turned(cells, many))
            agree(self, marked, surface)
            rows = {}
            for edge in edges(marked):
                rows.setdefault(edge.faces, []).append((edge.start, edge.end, edge.kind))
            here = [(0, 0, 1), (0, 1, 0), (1, 0, 0)][many]
            start = tuple(1 - number for number in here)
            middle, end = tuple(a + b for a, b in zip(start, here)), tuple(a + 2 * b for a, b in zip(start, here))
            wanted = [(start, middle, "out"), (middle, end, "in")]
            self.assertTrue(any(set(wanted) <= set(found) for found in rows.values()))

    def test_cells_that_are_not_neighbors(self):
        for first, second in [((0, 0, 0), (1, 1, 0)), ((0, 1, 0), (1, 0, 0)), ((0, 0, 0), (0, 1, 1)), ((1, 0, 0), (0, 0, 1))]:
            marked, surface = made_of({first, second})
            agree(self, marked, surface)
            self.assertEqual({edge.kind for edge in edges(marked)}, {"out"})
            self.assertEqual([len(edges(marked)), len(corners(marked))], [24, 16])


class CornerTest(unittest.TestCase):
    def test_block(self):
        made = corners(block(((0, 0, 0), (2, 3, 4)), "a"))
        self.assertTrue(all(isinstance(corner, Corner) for corner in made))
        self.assertEqual(sorted(corner.point for corner in made), sorted((x, y, z) for x in (0, 2) for y in (0, 3) for z in (0, 4)))
        for corner in made:
            self.assertEqual(corner.name, ("corner", corner.faces, 0, 1))
            self.assertEqual(len(corner.faces), 3)

    def test_bodies_that_touch_in_a_point(self):
        for first, second in [((0, 0, 0), (1, 1, 1)), ((1, 0, 0), (0, 1, 1)), ((0, 1, 0), (1, 0, 1)), ((0, 0, 1), (1, 1, 0))]:
            marked, surface = made_of({first, second})
            agree(self, marked, surface)
            self.assertEqual([corner.point for corner in corners(marked)].count((1, 1, 1)), 2)

    def test_two_corners_with_the_same_faces_at_one_point(self):
        """Numbers by points first, then by the least cells of the fans."""
        source = random.Random(24)
        room = sorted(cells_of([((0, 0, 0), (2, 2, 2))]))
        found = 0
        for _ in range(120):
            marked, surface = made_of(source.sample(room, source.randrange(2, 7)))
            same = Surface(surface.cells, {square: "t/s" for square in surface.origins})
            again = type(marked)(marked.coordinates, marked.filled,
                                 [[label and "t/s" for label in labels] for labels in marked.squares])
            agree(self, again, same)
            found += len({(corner.point, corner.faces) for corner in corners(again)}) < len(corners(again))
        ring = cells_of([((0, 0, 0), (4, 4, 4))]) - {(1, 1, 1), (2, 2, 1), (1, 1, 2), (2, 2, 2)}
        agree(self, *made_of(ring))

    def test_seams_that_turn_end_and_go_on(self):
        base = ((0, 0, 0), (6, 6, 2))
        for box in [((2, 2, 1), (4, 4, 2)), ((0, 2, 1), (3, 4, 2)), ((2, 0, 0), (4, 6, 2)), ((2, 2, 1), (4, 6, 2))]:
            # Cut a room and fill it again: a seam on the top.
            marked = block(base, "a").cut(block(box, "b")).joined(block(box, "c"))
            plain = Surface.of_box(base, "a").cut(Surface.of_box(box, "b")).joined(Surface.of_box(box, "c"))
            agree(self, marked, plain)
        inner = block(base, "a").cut(block(((2, 2, 1), (4, 4, 2)), "b")).joined(block(((2, 2, 1), (4, 4, 2)), "c"))
        points = sorted(corner.point for corner in corners(inner) if len(corner.faces) == 2)
        self.assertEqual(points, [(2, 2, 2), (2, 4, 2), (4, 2, 2), (4, 4, 2)])
        # A seam that goes on around the border of the solid turns there; in between it goes straight on.
        split = block(((0, 0, 0), (4, 4, 2)), "low").joined(block(((2, 0, 0), (6, 4, 2)), "high"))
        self.assertEqual(sorted(corner.point for corner in corners(split) if corner.point[0] == 4),
                         [(4, 0, 0), (4, 0, 2), (4, 4, 0), (4, 4, 2)])

    def test_segments_on_one_line(self):
        """At a point in the middle of an edge, and where a line of other places of the solid crosses it, is no corner."""
        marked, surface = made_of(cells_of([((0, 0, 0), (4, 4, 4)), ((5, 1, 1), (6, 2, 2))]))
        agree(self, marked, surface)
        self.assertEqual(len(corners(marked)), 16)


if __name__ == "__main__":
    unittest.main()
