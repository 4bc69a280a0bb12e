"""[94], [97]: center, standing and is_standing."""

import random
import unittest
from fractions import Fraction
from math import gcd

from solidnames.solids import Solid
from solidnames.standing import center, is_standing, standing
from tests.cells import cells_of, random_box, solid_of
from tests.helpers import LIMIT, any_values, caught, numbers, strings

BEAM = Solid(((0, 0, 0), (1, 1, 3)), ((1, 0, 2), (6, 1, 3)))
CUBE = Solid(((0, 0, 0), (2, 2, 2)))
# The line lies just on the border.
HALF = Solid(((0, 0, 0), (2, 2, 1)), ((0, 0, 1), (4, 2, 2)), ((2, 0, 2), (4, 2, 3)))


def plain_center(cells):
    return [sum(Fraction(2 * cell[axis] + 1, 2) for cell in cells) / len(cells) for axis in range(3)]


def contact_points(cells):
    least = min(cell[2] for cell in cells)
    return sorted({(x + i, y + j) for x, y, z in cells if z == least for i in (0, 1) for j in (0, 1)})


def stands(cells):
    """Whether no line through two contact corners parts the vertical line from all of them, or has it."""
    x, y, _ = plain_center(cells)
    points = contact_points(cells)
    for px, py in points:
        for qx, qy in points:
            def turn(u, v):
                return (qx - px) * (v - py) - (qy - py) * (u - px)
            if (px, py) != (qx, qy) and all(turn(u, v) >= 0 for u, v in points) and turn(x, y) <= 0:
                return False
    return True


def plain_is_standing(cells, value):
    """[94] word for word, for tuples of the right form."""
    x, y, _ = plain_center(cells)
    points = contact_points(cells)
    word, told = value
    if word == "stands":
        ways = list(zip(told, told[1:] + told[:1]))
        return len(told) >= 3 and all(point in points for point in told) and all(
            (qx - px) * (y - py) - (qy - py) * (x - px) > 0 for (px, py), (qx, qy) in ways)
    a, b, c = told
    return (a, b) != (0, 0) and all(a * u + b * v <= c for u, v in points) and a * x + b * y >= c


def random_cells(source):
    cells = set()
    for _ in range(source.randrange(1, 5)):
        cells |= cells_of([random_box(source, 0, 5)])
    return cells


class CenterTest(unittest.TestCase):
    def test_example_of_the_interface(self):
        self.assertEqual([center(BEAM)[0], standing(BEAM)[0], is_standing(BEAM, ("tips", (1, 0, 1)))], [(19, 8), 'tips', True])

    def test_random(self):
        source = random.Random(95)
        for _ in range(60):
            cells = random_cells(source)
            step = tuple(source.randrange(-9, 10) for _ in range(3))
            solid = solid_of(cells).moved(*step)
            made = center(solid)
            self.assertEqual([Fraction(*one) for one in made], [number + move for number, move in zip(plain_center(cells), step)])
            for top, bottom in made:
                self.assertEqual([gcd(top, bottom), bottom > 0, type(top), type(bottom)], [1, True, int, int])

    def test_lowest_terms(self):
        self.assertEqual(center(CUBE), ((1, 1), (1, 1), (1, 1)))
        self.assertEqual(center(Solid(((0, -1, -3), (1, 1, -2)))), ((1, 2), (0, 1), (-5, 2)))
        self.assertEqual(center(solid=Solid(((-LIMIT,) * 3, (LIMIT,) * 3))), ((0, 1),) * 3)
        self.assertEqual(center(Solid(((LIMIT - 1,) * 3, (LIMIT,) * 3))), ((2 * LIMIT - 1, 2),) * 3)

    def test_without_cells(self):
        for call in (center, standing, lambda solid: is_standing(solid, None), lambda solid: is_standing(solid, ("tips", (1, 0, 1)))):
            self.assertEqual(caught(call, Solid()), ("NoCells",))


class StandingTest(unittest.TestCase):
    def test_random(self):
        source = random.Random(96)
        words = []
        for _ in range(250):
            cells = random_cells(source)
            solid = solid_of(cells)
            paper = standing(solid)
            self.assertEqual(paper[0], "stands" if stands(cells) else "tips")
            self.assertTrue(is_standing(solid, paper))
            self.assertTrue(plain_is_standing(cells, paper))
            moved = solid.moved(3, -5, 7)
            self.assertTrue(is_standing(moved, standing(moved)))
            words.append(paper[0])
        self.assertEqual(set(words), {"stands", "tips"})

    def test_form(self):
        word, points = standing(CUBE)
        self.assertEqual([word, type(points), sorted(points)], ["stands", tuple, [(0, 0), (0, 2), (2, 0), (2, 2)]])
        word, numbers_told = standing(solid=BEAM)
        self.assertEqual([word, type(numbers_told), [type(number) for number in numbers_told]], ["tips", tuple, [int] * 3])

    def test_just_on_the_border(self):
        self.assertEqual(center(HALF)[0], (2, 1))
        self.assertEqual(standing(HALF)[0], "tips")
        self.assertTrue(is_standing(HALF, ("tips", (1, 0, 2))))
        self.assertFalse(is_standing(HALF, ("stands", ((0, 0), (2, 0), (2, 2), (0, 2)))))
        # One cell more on the other side, and it stands.
        more = HALF | Solid(((0, 0, 2), (1, 1, 3)))
        self.assertEqual([standing(more)[0], is_standing(more, ("tips", (1, 0, 2)))], ["stands", False])
        # On a corner, too.
        corner = Solid(((0, 0, 0), (1, 1, 1)), ((0, 0, 1), (2, 2, 40)))
        corner = corner | Solid(((1, 1, 40), (2, 2, 41)))
        self.assertEqual([center(corner)[:2], standing(corner)[0]], [((1, 1), (1, 1)), "tips"])
        self.assertTrue(is_standing(corner, ("tips", (1, 1, 2))))
        self.assertTrue(is_standing(corner, ("tips", (5, 2, 7))))

    def test_on_several_feet(self):
        table = Solid(((0, 0, 0), (1, 1, 3)), ((9, 0, 0), (10, 1, 3)), ((0, 9, 0), (1, 10, 3)), ((0, 0, 3), (10, 10, 4)))
        self.assertEqual(standing(table)[0], "stands")
        self.assertTrue(is_standing(table, ("stands", ((0, 0), (10, 0), (10, 1), (1, 10), (0, 10)))))
        self.assertTrue(is_standing(table, ("stands", ((1, 0), (10, 1), (0, 10)))))
        self.assertFalse(is_standing(table, ("stands", ((0, 0), (10, 0), (0, 9)))))
        # A corner that is none of a contact square.
        self.assertFalse(is_standing(table, ("stands", ((0, 0), (10, 0), (10, 10), (0, 10)))))
        self.assertFalse(is_standing(table, ("stands", ((0, 0), (5, 0), (10, 1), (1, 10), (0, 10)))))

    def test_great(self):
        great = Solid(((-LIMIT, -LIMIT, 0), (LIMIT, LIMIT, 1)))
        self.assertTrue(is_standing(great, standing(great)))
        self.assertTrue(is_standing(great, ("stands", ((-LIMIT, 7 - LIMIT), (5, -3), (LIMIT, LIMIT), (-9, LIMIT)))))
        tall = Solid(((0, 0, -LIMIT), (LIMIT, 1, LIMIT)), ((LIMIT - 1, 0, -LIMIT), (LIMIT, LIMIT, LIMIT)))
        self.assertTrue(is_standing(tall, standing(tall)))
        over = Solid(((5, 0, 0), (6, 1, 1)), ((-LIMIT, -LIMIT, 1), (LIMIT, LIMIT, LIMIT)))
        self.assertEqual(standing(over)[0], "tips")
        self.assertTrue(is_standing(over, standing(over)))


class PaperTest(unittest.TestCase):
    def test_papers_of_all_kinds(self):
        source = random.Random(97)
        accepted = {"stands": 0, "tips": 0}
        for _ in range(40):
            cells = random_cells(source)
            solid = solid_of(cells)
            points = contact_points(cells)
            for _ in range(40):
                told = tuple(source.choice(points) for _ in range(source.randrange(2, 6)))
                if source.random() < 0.3:
                    told = tuple(sorted(told)) + ((source.randrange(7), source.randrange(7)),)
                papers = [("stands", told)]
                a, b = source.randrange(-2, 3), source.randrange(-2, 3)
                most = max(a * x + b * y for x, y in points)
                papers += [("tips", (a, b, most + extra)) for extra in (-1, 0, 1)]
                for paper in papers:
                    self.assertEqual(is_standing(solid, paper), plain_is_standing(cells, paper), paper)
                    accepted[paper[0]] += is_standing(solid, paper)
        self.assertGreater(min(accepted.values()), 5)

    def test_directions_and_doubles(self):
        round_it = ((0, 0), (2, 0), (2, 2), (0, 2))
        for k in range(4):
            self.assertTrue(is_standing(CUBE, ("stands", round_it[k:] + round_it[:k])))
        for points in [round_it[::-1], round_it[:2], (), round_it[:1], round_it[:3], round_it + round_it[:1] * 2, ((0, 0), (2, 0), (0, 2))]:
            self.assertFalse(is_standing(CUBE, ("stands", points)), points)
        for points in [round_it * 2, ((0, 0), (1, 0), (2, 0), (2, 1), (1, 2)), ((0, 0), (2, 1), (0, 2)), ((1, 0), (2, 2), (0, 2))]:
            self.assertTrue(is_standing(CUBE, ("stands", points)), points)

    def test_any_value(self):
        points = ((0, 0), (2, 0), (2, 2), (0, 2))
        good = ("stands", points)
        for value in any_values() + strings() + numbers() + [
                list(good), ("stands", list(points)), ("stands", points, 1), ("stands",), ("Stands", points), ("tips", points),
                ("stands", ([0, 0], *points[1:])), ("stands", ((0, 0, 0), *points[1:])), ("stands", ((False, 0), *points[1:])),
                ("stands", ((0, "0"), *points[1:])), ("stands", (None, *points[1:])), ("stands", ("ab", *points[1:])), ("stands", "abc"),
                ("stands", None), (None, points), ("tips", None), ("tips", (1, 0)), ("tips", (1, 0, 1, 1)), ("tips", "abc"),
                ("stands", (5, *points[1:])), ("stands", {}), (["stands"], points), ("stands", CUBE)]:
            self.assertIs(is_standing(CUBE, value), False, repr(value))
        self.assertIs(is_standing(CUBE, good), True)
        self.assertIs(is_standing(value=good, solid=CUBE), True)
        for numbers_told in [[1, 0, 1], (True, 0, 1), (1, False, 1), (1, 0, True), ("1", 0, 1), (1, 0, None), (0, 0, 0), (0, 0, 1), (0, 0, -1),
                             (1, 0), (1, 0, 1, 0), (-1, 0, -1), (1, 0, 0), (1, 0, 3), None, 1]:
            self.assertIs(is_standing(BEAM, ("tips", numbers_told)), False, repr(numbers_told))
        for numbers_told in [(1, 0, 1), (1, 0, 2), (10 ** 999, 0, 10 ** 999), (5, 1, 6), (5, -3, 5)]:
            self.assertIs(is_standing(BEAM, ("tips", numbers_told)), True, repr(numbers_told))
        self.assertIs(is_standing(BEAM, ("Tips", (1, 0, 1))), False)
        self.assertIs(is_standing(BEAM, ("stands", (1, 0, 1))), False)
        self.assertIs(is_standing(BEAM, ["tips", (1, 0, 1)]), False)


if __name__ == "__main__":
    unittest.main()
