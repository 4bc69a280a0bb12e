"""[91] to [93], [97]: sections, profiles, and the outlines of faces."""

import random
import unittest

from solidnames.faces import faces
from solidnames.marked import block, nothing
from solidnames.sections import Section, face_outlines, face_perimeter, profile, section
from tests.cells import Surface, cells_of
from tests.helpers import AXES, LIMIT, any_values, caught, numbers, strings
from tests.plainfaces import Plain, components, lowest, segments_of
from tests.plainparts import DIRECTIONS
from tests.test_faces import made_of, random_made


def plain_outlines(borders):
    """Walks along directed unit segments, a dict from (start, end, cell) to the origin."""
    left, found = dict(borders), []
    while left:
        here, walk = min(left), []
        while here in left:
            walk.append((here, left.pop(here)))
            ahead = [one for one in borders if one[0] == here[1]]
            here = ahead[0] if len(ahead) == 1 else next(one for one in ahead if one[2] == here[2])
        first = min(range(len(walk)), key=lambda k: walk[k][0][0])
        rows, before = [], None
        for (start, end, _), origin in walk[first:] + walk[:first]:
            kind = (end[0] - start[0], end[1] - start[1], origin)
            if kind != before:
                rows.append((*start, origin))
            before = kind
        found.append(tuple(rows))
    found.sort()
    return found[0], tuple(found[1:])


def borders_of(cells, origin_at):
    """The directed borders of flat cells, the cells on the left; origin_at is told the cell and the one behind the border."""
    borders = {}
    for u, v in cells:
        around = [((u, v), (u + 1, v), (u, v - 1)), ((u + 1, v), (u + 1, v + 1), (u + 1, v)),
                  ((u + 1, v + 1), (u, v + 1), (u, v + 1)), ((u, v + 1), (u, v), (u - 1, v))]
        for start, end, other in around:
            if other not in cells:
                borders[start, end, (u, v)] = origin_at((u, v), other)
    return borders


def side_towards(cell, other, axis):
    """The side of the solid from a flat cell to another one."""
    first, second = DIRECTIONS[axis]
    if cell[0] != other[0]:
        return ("+" if other[0] > cell[0] else "-") + first
    return ("+" if other[1] > cell[1] else "-") + second


def flat(point, axis):
    return tuple(point[AXES.index(name)] for name in DIRECTIONS[axis])


def plain_regions(surface, axis, at):
    here = {flat(cell, axis): cell for cell in surface.cells if cell[AXES.index(axis)] == at}
    links = [(cell, other) for cell in here for other in ((cell[0] + 1, cell[1]), (cell[0], cell[1] + 1)) if other in here]
    return tuple(plain_outlines(borders_of(region, lambda cell, other: surface.origins[here[cell], side_towards(cell, other, axis)]))
                 for region in sorted(components(here, links), key=min))


def plain_face_outlines(plain, index):
    axis = plain.side(index)[1]
    squares = {flat(lowest(square), axis): square for square in plain.faces[index]}

    def origin_at(cell, other):
        square, side = squares[cell], side_towards(cell, other, axis)
        segment = next(one for one in segments_of(square) if one in segments_of((square[0], side)))
        met = [pair for pair in plain.meetings[segment] if square in pair[:2]]
        assert len(met) == 1
        neighbor = met[0][1] if met[0][0] == square else met[0][0]
        assert plain.face_of[neighbor] != index
        return plain.surface.origins[neighbor]
    return plain_outlines(borders_of(set(squares), origin_at))


class SectionTest(unittest.TestCase):
    def test_example_of_the_interface(self):
        part = block(((0, 0, 0), (4, 4, 2)), "plate").joined(block(((1, 1, 2), (2, 3, 5)), "post"))
        self.assertEqual(section(part, "z", 3).regions,
                         ((((1, 1, 'post/-y'), (2, 1, 'post/+x'), (2, 3, 'post/+y'), (1, 3, 'post/-x')), ()),))

    def test_random_solids(self):
        source = random.Random(91)
        for count in range(70):
            marked, surface = random_made(source, source.choice([3, 4, 6]), source.randrange(10), "abc"[:count % 3 + 1])
            self.agree(marked, surface)

    def test_cells_that_touch_in_points(self):
        source = random.Random(92)
        for size in (2, 3, 4):
            for _ in range(30):
                cells = source.sample(sorted(cells_of([((0, 0, 0), (size, size, 1))])), source.randrange(1, size * size))
                marked, surface = made_of(cells)
                self.agree(marked, surface)

    def agree(self, marked, surface):
        solid, perimeters = marked.to_solid(), 0
        for axis in AXES:
            areas = 0
            for at in range(-1, 7):
                made, wanted = section(marked, axis, at), plain_regions(surface, axis, at)
                self.assertIsInstance(made, Section)
                self.assertEqual([made.axis, made.at, made.regions, len(made)], [axis, at, wanted, len(wanted)])
                here = [cell for cell in surface.cells if cell[AXES.index(axis)] == at]
                self.assertEqual(made.area, len(here))
                self.assertEqual(made.perimeter, sum((cell, sign + name) in surface.origins for cell in here
                                                     for name in DIRECTIONS[axis] for sign in "-+"))
                areas, perimeters = areas + made.area, perimeters + made.perimeter
            self.assertEqual(areas, solid.volume)
            self.check_profile(marked, axis, surface)
        self.assertEqual(perimeters, 2 * solid.area)

    def check_profile(self, marked, axis, surface):
        rows, index = list(profile(marked, axis)), AXES.index(axis)
        places = [cell[index] for cell in surface.cells]
        wanted = []
        for at in range(min(places), max(places) + 1) if places else []:
            regions = plain_regions(surface, axis, at)
            if wanted and wanted[-1][2] == regions:
                wanted[-1][1] = at + 1
            else:
                wanted.append([at, at + 1, regions])
        self.assertEqual([[low, high, made.regions] for low, high, made in rows], wanted)
        self.assertEqual([made for _, _, made in rows], [section(marked, axis, low) for low, _, _ in rows])

    def test_holes_and_origins(self):
        plate = block(((0, 0, 0), (9, 9, 3)), "a").cut(block(((1, 1, 0), (3, 3, 3)), "b")).cut(block(((5, 5, 0), (8, 7, 3)), "c"))
        (outer, others), = section(plate, "z", 1).regions
        self.assertEqual([outer[0], [one[0] for one in others]], [(0, 0, "a/-y"), [(1, 1, "b/-x"), (5, 5, "c/-x")]])
        self.assertEqual(others[0], ((1, 1, "b/-x"), (1, 3, "b/+y"), (3, 3, "b/+x"), (3, 1, "b/-y")))
        self.assertEqual([section(plate, "z", 1).area, section(plate, "z", 1).perimeter], [81 - 4 - 6, 36 + 8 + 10])
        wide = block(((0, 0, 0), (2, 2, 2)), "a").joined(block(((2, 0, 0), (5, 2, 2)), "b"))
        self.assertEqual(section(wide, "z", 0).regions, ((
            ((0, 0, "a/-y"), (2, 0, "b/-y"), (5, 0, "b/+x"), (5, 2, "b/+y"), (2, 2, "a/+y"), (0, 2, "a/-x")), ()),))

    def test_a_hole_that_touches_the_border(self):
        """The walk goes on along the same cell: the hole and the border are one outline."""
        cells = cells_of([((0, 0, 0), (3, 3, 1))]) - {(1, 1, 0), (0, 0, 0)}
        marked, surface = made_of(cells)
        self.agree(marked, surface)
        self.assertEqual([len(others) for _, others in section(marked, "z", 0).regions], [0])

    def test_great_coordinates(self):
        great = block(((-LIMIT,) * 3, (LIMIT,) * 3), "a").cut(block(((0, -LIMIT, -LIMIT), (LIMIT, 7, LIMIT)), "b"))
        made = section(great, "z", -LIMIT)
        self.assertEqual(made.regions, ((((-LIMIT, -LIMIT, "a/-y"), (0, -LIMIT, "b/-x"), (0, 7, "b/+y"), (LIMIT, 7, "a/+x"),
                                          (LIMIT, LIMIT, "a/+y"), (-LIMIT, LIMIT, "a/-x")), ()),))
        self.assertEqual([made.area, made.perimeter], [4 * LIMIT ** 2 - LIMIT * (LIMIT + 7), 8 * LIMIT])
        self.assertEqual([(low, high, made.area) for low, high, made in profile(great, "x")],
                         [(-LIMIT, 0, 4 * LIMIT ** 2), (0, LIMIT, 2 * LIMIT * (LIMIT - 7))])
        self.assertEqual([len(section(great, "z", at)) for at in (LIMIT, LIMIT - 1, -LIMIT)], [0, 1, 1])

    def test_empty_sections(self):
        pad = block(((0, 0, 0), (2, 2, 2)), "a")
        for made in (section(pad, "z", 2), section(pad, "z", -1), section(nothing(), "z", 0), section(pad, "x", LIMIT)):
            self.assertEqual([made.regions, made.area, made.perimeter, len(made)], [(), 0, 0, 0])
        self.assertEqual([list(profile(nothing(), axis)) for axis in AXES], [[]] * 3)
        two = pad.joined(block(((0, 0, 5), (2, 2, 6)), "a"))
        self.assertEqual([(low, high, len(made)) for low, high, made in profile(two, "z")], [(0, 2, 1), (2, 5, 0), (5, 6, 1)])

    def test_equality(self):
        pad = block(((0, 0, 0), (2, 2, 2)), "a")
        one = section(pad, "z", 0)
        self.assertEqual(one, section(at=0, axis="z", marked=pad.joined(block(((0, 0, 9), (1, 1, 10)), "b"))))
        for other in [section(pad, "z", 1), section(pad, "x", 0), section(pad.within("b"), "z", 0), section(pad, "z", 2), one.regions,
                      *any_values(), *strings(), *numbers()]:
            self.assertFalse(one == other)
            self.assertTrue(one != other)
        self.assertNotEqual(section(pad, "z", 5), section(pad, "y", 5))

    def test_errors_in_order(self):
        pad = block(((0, 0, 0), (2, 2, 2)), "a")
        for value in any_values() + numbers() + [text for text in strings()] + ["+x", "X"]:
            for marked in (pad, nothing()):
                for call in (lambda: section(marked, value, None), lambda: list(profile(marked, value))):
                    error = caught(call)
                    self.assertEqual((error[0], error[1] is value), ("InvalidAxis", True))
        for value in any_values() + strings() + [LIMIT + 1, -LIMIT - 1, 10 ** 999]:
            for marked in (pad, nothing()):
                error = caught(section, marked, "x", value)
                self.assertEqual((error[0], error[1] is value), ("InvalidNumber", True))
        # A generator raises when its first item is requested.
        walk = profile(pad, "w")
        self.assertEqual(caught(lambda: next(walk)), ("InvalidAxis", "w"))
        self.assertEqual([row[:2] for row in profile(axis="x", marked=pad)], [(0, 2)])


class FaceOutlinesTest(unittest.TestCase):
    def test_random_solids(self):
        source = random.Random(93)
        for count in range(70):
            marked, surface = random_made(source, source.choice([2, 3, 4, 6]), source.randrange(10), "abc"[:count % 3 + 1])
            self.agree(marked, surface)

    def test_cells_that_touch(self):
        source = random.Random(94)
        room = sorted(cells_of([((0, 0, 0), (3, 3, 2))]))
        for _ in range(40):
            self.agree(*made_of(source.sample(room, source.randrange(2, 16))))

    def agree(self, marked, surface):
        plain = Plain(surface)
        for face in faces(marked):
            index = plain.names.index(face.name)
            wanted = plain_face_outlines(plain, index)
            self.assertEqual(face_outlines(face), wanted)
            met = sum(len({plain.face_of[one], plain.face_of[other]}) == 2 and index in (plain.face_of[one], plain.face_of[other])
                      for _, one, other, _ in plain.links)
            self.assertEqual(face_perimeter(face), met)

    def test_in_words(self):
        pad = block(((0, 0, 0), (2, 3, 4)), "a").joined(block(((0, 0, 4), (1, 1, 5)), "b"))
        made = {face.origin: face_outlines(face) for face in faces(pad)}
        self.assertEqual(made["a/+z"], (((0, 1, "b/+y"), (1, 1, "b/+x"), (1, 0, "a/-y"), (2, 0, "a/+x"), (2, 3, "a/+y"), (0, 3, "a/-x")), ()))
        self.assertEqual(made["a/-z"], (((0, 0, "a/-y"), (2, 0, "a/+x"), (2, 3, "a/+y"), (0, 3, "a/-x")), ()))
        # The directions of y are z and x.
        self.assertEqual(made["b/+y"], (((4, 0, "b/-x"), (5, 0, "b/+z"), (5, 1, "b/+x"), (4, 1, "a/+z")), ()))
        post = block(((0, 0, 0), (5, 5, 2)), "a").joined(block(((1, 1, 2), (2, 2, 3)), "b"))
        outer, others = face_outlines(next(face for face in faces(post) if face.origin == "a/+z"))
        self.assertEqual([outer[0], others], [(0, 0, "a/-y"), (((1, 1, "b/-x"), (1, 2, "b/+y"), (2, 2, "b/+x"), (2, 1, "b/-y")),)])
        self.assertEqual(face_perimeter(face=next(face for face in faces(post) if face.origin == "a/+z")), 24)

    def test_great(self):
        great = faces(block(((-LIMIT,) * 3, (LIMIT,) * 3), "a"))[0]
        self.assertEqual([face_perimeter(great), face_outlines(great)[0][0]], [8 * LIMIT, (-LIMIT, -LIMIT, "a/-z")])

    def test_equal_faces_have_equal_outlines(self):
        """Two faces with one name and the same squares, but other places of their neighbors."""
        base = block(((0, 0, 0), (4, 4, 1)), "a")
        one = base.joined(block(((0, 0, 1), (1, 4, 2)), "b")).joined(block(((3, 0, 1), (4, 4, 2)), "c"))
        other = base.joined(block(((0, 0, 1), (1, 4, 2)), "c")).joined(block(((3, 0, 1), (4, 4, 2)), "b"))
        tops = [[face for face in faces(marked) if face.origin == "a/+z"][0] for marked in (one, other)]
        self.assertEqual(tops[0].layer, tops[1].layer)
        self.assertNotEqual(tops[0], tops[1])
        self.assertNotEqual(face_outlines(tops[0]), face_outlines(tops[1]))


class PlainTest(unittest.TestCase):
    def test_walks_of_the_reference(self):
        surface = Surface.of_box(((0, 0, 0), (1, 1, 1)), "a")
        self.assertEqual(plain_regions(surface, "z", 0), ((((0, 0, "a/-y"), (1, 0, "a/+x"), (1, 1, "a/+y"), (0, 1, "a/-x")), ()),))
        self.assertEqual(plain_regions(surface, "y", 0), ((((0, 0, "a/-x"), (1, 0, "a/+z"), (1, 1, "a/+x"), (0, 1, "a/-z")), ()),))


if __name__ == "__main__":
    unittest.main()
