"""[95], [97]: contact, distance, is_distance and travel."""

import random
import unittest
from collections import Counter

from solidnames.faces import faces
from solidnames.marked import block, nothing
from solidnames.pairs import contact, distance, is_distance, travel
from solidnames.solids import Solid
from tests.cells import OPPOSITE, beside, cells_of, points_of, random_cells, solid_of, way_of
from tests.helpers import LIMIT, SIDES, any_values, caught, numbers, strings
from tests.plainfaces import Plain
from tests.test_faces import random_made

CUBE = Solid(((0, 0, 0), (1, 1, 1)))


def box(*numbers_told):
    return (tuple(numbers_told[:3]), tuple(numbers_told[3:]))


def plain_contact(one, other):
    """[one] and other are Plain."""
    counts = Counter()
    for cell, side in one.surface.origins:
        square = (beside(cell, side), OPPOSITE[side])
        if square in other.surface.origins:
            counts[one.names[one.face_of[cell, side]], other.names[other.face_of[square]]] += 1
    return sorted((*pair, count) for pair, count in counts.items())


def plain_square(cells, others):
    """The square of the distance, cell by cell."""
    return min(sum(max(0, abs(a - b) - 1) ** 2 for a, b in zip(cell, other)) for cell in cells for other in others)


def small_cells(source):
    """The cells of some small boxes."""
    return {tuple(number + step for number, step in zip(cell, move)) for _ in range(source.randrange(1, 4))
            for move in [tuple(source.randrange(5) for _ in range(3))] for cell in random_cells(source, 1, 3)}


def apart_cells(source):
    """Two sets of cells without common ones, neither empty."""
    while True:
        one, other = small_cells(source), small_cells(source)
        if other - one:
            return one, other - one


class ContactTest(unittest.TestCase):
    def test_plate_and_post(self):
        plate, post = block(box(0, 0, 0, 4, 4, 2), "plate"), block(box(1, 1, 2, 6, 3, 5), "post")
        top = [face.name for face in faces(plate) if face.side == "+z"][0]
        under = [face.name for face in faces(post) if face.side == "-z"][0]
        self.assertEqual(contact(plate, post), [(top, under, 6)])
        self.assertEqual(contact(post, plate), [(under, top, 6)])
        self.assertEqual(contact(other=post, one=plate), [(top, under, 6)])
        contact(plate, post).clear()

    def test_several_faces(self):
        cup = block(box(0, 0, 0, 5, 5, 4), "cup").cut(block(box(1, 1, 1, 4, 4, 4), "room"))
        rows = contact(cup, block(box(1, 1, 1, 4, 4, 3), "tea"))
        self.assertEqual([(name[1], other[1], count) for name, other, count in rows], [
            ("room/+x", "tea/+x", 6), ("room/+y", "tea/+y", 6), ("room/-x", "tea/-x", 6), ("room/-y", "tea/-y", 6), ("room/-z", "tea/-z", 9)])
        # The same faces at two places are one entry.
        legs = block(box(0, 0, 0, 1, 1, 2), "leg").joined(block(box(3, 0, 0, 4, 1, 2), "leg")).joined(block(box(0, 0, 1, 4, 1, 2), "bar"))
        rows = contact(block(box(0, 0, -1, 4, 4, 0), "floor"), legs)
        self.assertEqual([(name[1], other[1:2] + other[3:], count) for name, other, count in rows],
                         [("floor/+z", ("leg/-z", 0, 2), 1), ("floor/+z", ("leg/-z", 1, 2), 1)])
        table = block(box(0, 0, 0, 9, 1, 1), "t").cut(block(box(3, 0, 0, 6, 1, 1), "s"))
        bridge = block(box(0, 0, 1, 9, 1, 2), "b")
        tops = [face.name for face in faces(table) if face.origin == "t/+z"]
        self.assertEqual([(name, other[1], count) for name, other, count in contact(table, bridge)], [(top, "b/-z", 3) for top in tops])
        self.assertEqual([(name[1], other, count) for name, other, count in contact(bridge, table)], [("b/-z", top, 3) for top in tops])

    def test_edges_and_points_alone(self):
        pad = block(box(0, 0, 0, 2, 2, 2), "a")
        for other in [box(2, 2, 0, 3, 3, 2), box(2, 2, 2, 3, 3, 3), box(3, 0, 0, 4, 1, 1), box(-1, 0, 2, 2, 5, 3)]:
            found = contact(pad, block(other, "b"))
            self.assertEqual([row[2] for row in found], [4] if other[0][2] == 2 and other[0][0] == -1 else [])
        self.assertEqual([contact(pad, nothing()), contact(nothing(), pad), contact(nothing(), nothing())], [[], [], []])

    def test_random_solids(self):
        source = random.Random(150)
        counted = 0
        for _ in range(60):
            marked, surface = random_made(source, 5, source.randrange(4), "ab")
            other, other_surface = random_made(source, 6, source.randrange(4), "bc")
            other, other_surface = other.cut(marked), other_surface.cut(surface)
            plain, other_plain = Plain(surface), Plain(other_surface)
            rows = contact(marked, other)
            self.assertEqual(rows, plain_contact(plain, other_plain))
            self.assertEqual(sorted((name, first, count) for first, name, count in rows), contact(other, marked))
            counted += len(rows)
        self.assertGreater(counted, 90)

    def test_great_counts(self):
        low, high = block(box(-LIMIT, -LIMIT, -5, LIMIT, LIMIT, 0), "a"), block(box(-LIMIT, 0, 0, LIMIT, LIMIT, LIMIT), "b")
        self.assertEqual([row[2] for row in contact(low, high)], [2 * LIMIT ** 2])

    def test_overlapping(self):
        source = random.Random(151)
        for _ in range(30):
            marked, surface = random_made(source, 4, 2, "ab")
            other, other_surface = random_made(source, 4, 2, "bc")
            common = surface.cells & other_surface.cells
            if common:
                for call in (contact, lambda one, two: travel(one.to_solid(), two.to_solid(), "+x")):
                    self.assertEqual(caught(call, marked, other), ("Overlapping", min(common)))
        self.assertEqual(caught(contact, block(box(-LIMIT, -9, 0, LIMIT, 9, 9), "a"), block(box(5 - LIMIT, -LIMIT, 3, LIMIT, LIMIT, 4), "b")),
                         ("Overlapping", (5 - LIMIT, -9, 3)))


class DistanceTest(unittest.TestCase):
    def check(self, one, other, square):
        told = distance(one, other)
        self.assertEqual([type(told), len(told), told[:2]], [tuple, 4, ("apart", square)])
        self.assertTrue(is_distance(one, other, told))
        for point, solid in zip(told[2:], (one, other)):
            self.assertEqual([type(point), [type(number) for number in point]], [tuple, [int] * 3])
            self.assertTrue(any(all(low <= number <= high for low, number, high in zip(*corners)) for corners in
                                [(low, point, high) for low, high in solid.boxes()]))
        self.assertEqual(sum((a - b) ** 2 for a, b in zip(*told[2:])), square)
        back = distance(other, one)
        self.assertEqual(back[:2], told[:2])
        self.assertTrue(is_distance(other, one, ("apart", square, told[3], told[2])))
        return told

    def test_on_faces_edges_and_corners(self):
        self.check(CUBE, Solid(box(4, 0, 0, 5, 1, 1)), 9)
        self.check(CUBE, Solid(box(4, 0, 3, 5, 1, 4)), 13)
        self.assertEqual(self.check(CUBE, Solid(box(4, 5, 6, 7, 8, 9)), 50), ("apart", 50, (1, 1, 1), (4, 5, 6)))
        self.assertEqual(self.check(CUBE, Solid(box(-4, -5, -6, -3, -3, -2)), 22), ("apart", 22, (0, 0, 0), (-3, -3, -2)))

    def test_touching(self):
        for other in [box(1, 0, 0, 2, 1, 1), box(1, 1, 0, 2, 2, 1), box(1, 1, 1, 2, 2, 2), box(-1, -1, -1, 0, 0, 0), box(0, 0, 1, 9, 9, 9)]:
            told = self.check(CUBE, Solid(other), 0)
            self.assertEqual(told[2], told[3])

    def test_common_cells(self):
        one, other = Solid(box(0, 0, 0, 5, 5, 5)), Solid(box(3, 4, 4, 9, 9, 9), box(4, 2, 4, 5, 9, 9))
        self.assertEqual([distance(one, other), distance(other, one)], [("overlap", (3, 4, 4))] * 2)
        self.assertEqual(distance(one=CUBE, other=CUBE), ("overlap", (0, 0, 0)))

    def test_random(self):
        source = random.Random(152)
        words = Counter()
        for _ in range(240):
            one, other = apart_cells(source) if source.random() < 0.4 else (small_cells(source), small_cells(source))
            step = tuple(source.choice([0, 2, 4, 9]) for _ in range(3)) if source.random() < 0.5 else (0, 0, 0)
            other = {tuple(a + b for a, b in zip(cell, step)) for cell in other}
            solids = solid_of(one), solid_of(other)
            if one & other:
                self.assertEqual(distance(*solids), ("overlap", min(one & other)))
                words["overlap"] += 1
            else:
                told = self.check(*solids, plain_square(one, other))
                words[told[1] == 0] += 1
        self.assertGreater(min(words.values()), 5, words)

    def test_in_rooms_and_around(self):
        shell = Solid(box(0, 0, 0, 9, 9, 9)) - Solid(box(1, 1, 1, 8, 8, 8))
        for inner, square in [(box(3, 3, 3, 5, 5, 5), 4), (box(4, 4, 2, 5, 5, 3), 1), (box(1, 1, 1, 2, 2, 2), 0)]:
            self.check(shell, Solid(inner), square)

    def test_great_coordinates(self):
        low, high = Solid(box(-LIMIT, -LIMIT, -LIMIT, 1 - LIMIT, 1 - LIMIT, 1 - LIMIT)), Solid(box(LIMIT - 1, LIMIT - 1, LIMIT - 1, LIMIT, LIMIT, LIMIT))
        self.check(low, high, 3 * (2 * LIMIT - 2) ** 2)
        bars = Solid(box(-LIMIT, 0, 0, LIMIT, 1, 1), box(-LIMIT, 50, 7, LIMIT, 51, 8))
        self.check(bars, Solid(box(5, 20, -LIMIT, 6, 21, LIMIT)), 19 ** 2)

    def test_no_cells(self):
        for one, other in [(Solid(), CUBE), (CUBE, Solid()), (Solid(), Solid())]:
            self.assertEqual(caught(distance, one, other), ("NoCells",))
            self.assertEqual(caught(is_distance, one, other, None), ("NoCells",))
            self.assertEqual(caught(is_distance, one, other, ("overlap", (0, 0, 0))), ("NoCells",))


class IsDistanceTest(unittest.TestCase):
    def test_random(self):
        """All tuples with points near the solids, and other squares."""
        source = random.Random(153)
        accepted = Counter()
        for _ in range(40):
            one, other = apart_cells(source)
            solids = solid_of(one), solid_of(other)
            square = plain_square(one, other)
            points, other_points = points_of(one), points_of(other)
            near = [(p, q) for p in points for q in other_points if sum((a - b) ** 2 for a, b in zip(p, q)) == square]
            for p, q in source.sample(near, min(5, len(near))):
                self.assertTrue(is_distance(*solids, ("apart", square, p, q)))
            for _ in range(60):
                p, q = source.choice(near)
                if source.random() < 0.7:
                    step = [source.choice([0, 0, 0, 1, -1]) for _ in range(3)]
                    p, q = [tuple(a + b for a, b in zip(point, step)) for point in (p, q)]
                if source.random() < 0.3:
                    q = tuple(number + source.choice([0, 0, 1, -1]) for number in q)
                told = source.choice([square, sum((a - b) ** 2 for a, b in zip(p, q))])
                good = told == square and (p, q) in near
                self.assertEqual(is_distance(*solids, ("apart", told, p, q)), good)
                accepted[good] += 1
        self.assertGreater(min(accepted.values()), 50)

    def test_other_nearest_points(self):
        one, other = Solid(box(0, 0, 0, 4, 4, 1)), Solid(box(2, 2, 3, 9, 9, 4))
        for p in [(2, 2, 1), (3, 4, 1), (4, 4, 1), (4, 2, 1)]:
            self.assertTrue(is_distance(one, other, ("apart", 4, p, (p[0], p[1], 3))))
        for value in [("apart", 4, (1, 2, 1), (1, 2, 3)), ("apart", 4, (3, 3, 1), (3, 4, 3)), ("apart", 9, (3, 3, 0), (3, 3, 3)),
                      ("apart", 5, (3, 3, 1), (3, 4, 3)), ("apart", 4, (3, 3, 3), (3, 3, 1)), ("apart", 4, (5, 5, 1), (5, 5, 3)),
                      ("apart", 2, (2, 2, 1), (2, 2, 3)), ("overlap", (2, 2, 1)), ("apart", -4, (3, 3, 1), (3, 3, 3))]:
            self.assertIs(is_distance(one, other, value), False, value)
        self.assertIs(is_distance(value=("apart", 4, (3, 3, 1), (3, 3, 3)), other=other, one=one), True)

    def test_overlap(self):
        one, other = Solid(box(0, 0, 0, 4, 4, 4)), Solid(box(1, 1, 1, 3, 3, 3))
        self.assertIs(is_distance(one, other, ("overlap", (1, 1, 1))), True)
        for value in [("overlap", (1, 1, 2)), ("overlap", (0, 0, 0)), ("overlap", [1, 1, 1]), ("overlap", (True, 1, 1)), ["overlap", (1, 1, 1)],
                      ("overlap", (1, 1, 1), 0), ("overlap",), ("apart", 0, (1, 1, 1), (1, 1, 1)), ("overlap", None), ("Overlap", (1, 1, 1))]:
            self.assertIs(is_distance(one, other, value), False, value)

    def test_any_value(self):
        one, other = CUBE, Solid(box(2, 0, 0, 3, 1, 1))
        good = ("apart", 1, (1, 0, 0), (2, 0, 0))
        self.assertIs(is_distance(one, other, good), True)
        for value in any_values() + strings() + numbers() + [
                list(good), ("apart", True, (1, 0, 0), (2, 0, 0)), ("apart", 1, [1, 0, 0], (2, 0, 0)), ("apart", 1, (1, 0, 0), [2, 0, 0]),
                ("apart", 1, (True, 0, 0), (2, 0, 0)), ("apart", 1, (1, False, 0), (2, 0, 0)), ("apart", 1, (1, 0, 0), (2, 0, False)),
                ("apart", 1, (1, 0), (2, 0)), ("apart", 1, (1, 0, 0, 0), (2, 0, 0, 0)), ("apart", "1", (1, 0, 0), (2, 0, 0)),
                ("apart", 1, (1, 0, 0)), good + (0,), ("apart", 1, None, None), (None, 1, (1, 0, 0), (2, 0, 0)),
                ("apart", None, (1, 0, 0), (2, 0, 0)), ("apart", 1, ("1", 0, 0), (2, 0, 0)), ("apart", 1, (1, 0, 0), CUBE)]:
            self.assertIs(is_distance(one, other, value), False, repr(value))


class TravelTest(unittest.TestCase):
    def ways(self, one, other):
        return [travel(one, other, side) for side in SIDES]

    def test_past(self):
        self.assertEqual(self.ways(CUBE, Solid(box(5, 0, 0, 6, 1, 1))), [4, None, None, None, None, None])
        self.assertEqual(self.ways(CUBE, Solid(box(5, 1, 0, 6, 2, 1))), [None] * 6)
        self.assertEqual(self.ways(CUBE, Solid(box(0, 0, 1, 6, 2, 2))), [None, None, None, None, 0, None])
        self.assertEqual(travel(side="+z", other=Solid(box(0, 0, -9, 1, 1, -2)), one=CUBE), 2)

    def test_pocket_hole_and_room(self):
        plate = Solid(box(0, 0, 0, 5, 5, 4))
        peg = Solid(box(2, 2, 9, 3, 3, 12))
        self.assertEqual(travel(plate, peg, "-z"), 5)
        self.assertEqual(travel(plate - Solid(box(2, 2, 1, 4, 4, 4)), peg, "-z"), 8)
        self.assertIsNone(travel(plate - Solid(box(2, 2, 0, 3, 3, 4)), peg, "-z"))
        self.assertEqual(travel(plate - Solid(box(2, 2, 0, 3, 3, 4)), peg | Solid(box(1, 1, 12, 4, 4, 13)), "-z"), 8)
        room = Solid(box(0, 0, 0, 9, 9, 9)) - Solid(box(1, 1, 1, 8, 8, 8))
        self.assertEqual(self.ways(room, Solid(box(2, 3, 4, 4, 6, 8))), [1, 4, 2, 2, 3, 0])
        # The part in front is free, that behind it is not.
        hook = Solid(box(0, 0, 0, 1, 1, 1), box(5, 0, 0, 6, 1, 1))
        self.assertEqual(self.ways(Solid(box(3, 0, 0, 4, 1, 1)), hook)[:2], [1, 2])

    def test_random(self):
        source = random.Random(154)
        found = Counter()
        for _ in range(120):
            one, other = apart_cells(source)
            solids = solid_of(one), solid_of(other)
            ways = self.ways(*solids)
            self.assertEqual(ways, [way_of(one, other, side, 9) for side in SIDES])
            self.assertEqual(ways, [travel(solids[1], solids[0], OPPOSITE[side]) for side in SIDES])
            found.update(ways)
        self.assertGreater(min(found[None], found[0], found[1], found[2]), 20)

    def test_great_coordinates(self):
        low, high = Solid(box(-LIMIT, 0, 0, 3 - LIMIT, 1, 1)), Solid(box(LIMIT - 4, 0, 0, LIMIT, 5, 5))
        self.assertEqual(travel(low, high, "-x"), 2 * LIMIT - 7)
        self.assertEqual(self.ways(high, low), [None, 2 * LIMIT - 7, None, None, None, None])

    def test_without_cells(self):
        self.assertEqual([self.ways(CUBE, Solid()), self.ways(Solid(), CUBE), self.ways(Solid(), Solid())], [[None] * 6] * 3)

    def test_errors(self):
        for value in any_values() + numbers() + strings() + ["x", "+X", "++x", "+xx", "z+", ("+x",), ["+x"]]:
            if value not in SIDES:
                for other in (CUBE, Solid(box(5, 5, 5, 6, 6, 6)), Solid()):
                    error = caught(travel, CUBE, other, value)
                    self.assertEqual((error[0], error[1] is value), ("InvalidSide", True))
        for side in SIDES:
            self.assertEqual(caught(travel, CUBE, CUBE, side), ("Overlapping", (0, 0, 0)))
        self.assertEqual(caught(travel, Solid(box(0, 0, 0, 5, 5, 5)), solid_of(cells_of([box(4, 1, 1, 9, 9, 9)])), "+z"), ("Overlapping", (4, 1, 1)))


if __name__ == "__main__":
    unittest.main()
