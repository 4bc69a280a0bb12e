"""[100] to [103]: views."""

import random
import unittest
from collections import Counter

from solidnames.edges import edges
from solidnames.faces import faces
from solidnames.marked import block, nothing
from solidnames.names import names
from solidnames.views import View
from tests.cells import OPPOSITE, cells_of
from tests.helpers import AXES, LIMIT, SIDES, any_values, caught, numbers, strings
from tests.plainfaces import Plain, lowest
from tests.test_faces import made_of, random_made
from tests.test_names import bent
from tests.test_pairs import box

DIRECTIONS = {"x": (1, 2), "y": (2, 0), "z": (0, 1)}


class PlainView:
    """[100] to [102] word for word, column by column."""

    def __init__(self, plain, side):
        self.plain, self.side, self.axis = plain, side, AXES.index(side[1])
        self.first, self.second = DIRECTIONS[side[1]]
        self.columns = {}
        for square in plain.surface.origins:
            if square[1] == side:
                column, at = (square[0][self.first], square[0][self.second]), lowest(square)[self.axis]
                front = at if side[0] == "+" else -at
                if column not in self.columns or front > self.columns[column][0]:
                    self.columns[column] = (front, at, square)

    def name(self, column):
        return self.plain.names[self.plain.face_of[self.columns[column][2]]] if column in self.columns else None

    def seen(self, column):
        return (self.name(column), self.columns[column][1]) if column in self.columns else None

    def bounds(self):
        us, vs = zip(*self.columns) if self.columns else ((), ())
        return ((min(us), min(vs)), (max(us) + 1, max(vs) + 1)) if us else None

    def area(self, name):
        return sum(self.name(column) == name for column in self.columns)

    def state_of_face(self, index):
        side, name = self.plain.side(index), self.plain.names[index]
        if side == self.side:
            seen = self.area(name)
            return "hidden" if not seen else "whole" if seen == len(self.plain.faces[index]) else "part"
        return "back" if side == OPPOSITE[self.side] else "end"

    def segments_of(self, start, end):
        """The unit segments of an edge that is not along the axis, as (point, direction) in the view, with the coordinate."""
        (at,) = {start[self.axis], end[self.axis]}
        low, high = [(point[self.first], point[self.second]) for point in (start, end)]
        direction = 0 if low[0] != high[0] else 1
        return [((low[0] + k, low[1]) if direction == 0 else (low[0], low[1] + k), direction, at) for k in range(high[direction] - low[direction])]

    def beside(self, point, direction):
        """The lower and the upper column beside a segment."""
        return ((point[0], point[1] - 1) if direction == 0 else (point[0] - 1, point[1])), point

    def is_seen(self, point, direction, at):
        return any(column in self.columns and self.columns[column][1] == at for column in self.beside(point, direction))

    def state_of_edge(self, start, end):
        if start[self.axis] != end[self.axis]:
            return "end"
        flags = [self.is_seen(*segment) for segment in self.segments_of(start, end)]
        return "hidden" if not any(flags) else "whole" if all(flags) else "part"

    def drawn(self):
        """A dict from unit segments (point, direction) to the columns beside them."""
        found = {}
        for u, v in self.columns:
            for segment in [((u, v), 0), ((u, v + 1), 0), ((u, v), 1), ((u + 1, v), 1)]:
                pair = self.beside(*segment)
                if self.name(pair[0]) != self.name(pair[1]):
                    found[segment] = tuple(map(self.seen, pair))
        return found

    def drawing(self):
        found, lines = self.drawn(), []
        for (point, direction), pair in found.items():
            def along(many):
                return (point[0] + many, point[1]) if direction == 0 else (point[0], point[1] + many)

            def names_at(many):
                pair = found.get((along(many), direction))
                return pair and tuple(one and one[0] for one in pair)
            if names_at(-1) != names_at(0):
                many = 0
                while names_at(many) == names_at(0):
                    many += 1
                kind = "outline" if None in pair else "seam" if pair[0][1] == pair[1][1] else "step"
                lines.append((point, along(many), *names_at(0), kind))
        return sorted(lines, key=lambda line: line[:2])


class ViewTest(unittest.TestCase):
    def agree(self, marked, plain, side):
        """All that is told of a view is that of plain columns."""
        view, other = View(marked, side), PlainView(plain, side)
        self.assertEqual([view.side, view.shadow, view.bounds], [side, len(other.columns), other.bounds()])
        self.assertEqual(view.faces, tuple(sorted({other.name(column) for column in other.columns})))
        for u in range(-1, 8):
            for v in range(-1, 8):
                self.assertEqual(view.seen(u, v), other.seen((u, v)))
        for index, name in enumerate(plain.names):
            self.assertEqual([view.seen_area(name), view.state_of(name)], [other.area(name), other.state_of_face(index)])
        states = []
        for name, start, end, _ in plain.edges():
            states.append(view.state_of(name))
            self.assertEqual(states[-1], other.state_of_edge(start, end))
        self.assertEqual(view.drawing(), other.drawing())
        walked = Counter()
        for low_u, low_v, high_u, high_v, name in view.walk():
            self.assertTrue(low_u < high_u and low_v < high_v)
            walked.update({(u, v): 1 for u in range(low_u, high_u) for v in range(low_v, high_v) if other.name((u, v)) == name})
            self.assertTrue(all(other.name((u, v)) == name for u in range(low_u, high_u) for v in range(low_v, high_v)))
        self.assertEqual(walked, Counter(dict.fromkeys(other.columns, 1)))
        self.promise(view, other)
        return states + [view.state_of(name) for name in plain.names] + [line[4] for line in view.drawing()]

    def promise(self, view, other):
        """[103]"""
        seen = {(point, direction) for _, start, end, _ in other.plain.edges() if start[other.axis] == end[other.axis]
                for point, direction, at in other.segments_of(start, end) if other.is_seen(point, direction, at)}
        lines = set()
        for start, end, *_ in view.drawing():
            direction = 0 if start[0] != end[0] else 1
            for k in range(end[direction] - start[direction]):
                lines.add(((start[0] + k, start[1]) if direction == 0 else (start[0], start[1] + k), direction))
        self.assertEqual(lines, seen)
        self.assertEqual(sum(view.seen_area(name) for name in view.faces), view.shadow)
        self.assertEqual(sum(view.seen_area(name) for name in other.plain.names), view.shadow)

    def test_random_solids(self):
        source = random.Random(170)
        told = Counter()
        for count in range(50):
            marked, surface = random_made(source, source.choice([3, 4, 6]), source.randrange(9), "abc"[:count % 3 + 1])
            plain = Plain(surface)
            for side in SIDES:
                told.update(self.agree(marked, plain, side))
            for axis in AXES:
                self.assertEqual(View(marked, "-" + axis).shadow, View(marked, "+" + axis).shadow)
                self.assertEqual(View(marked, "-" + axis).bounds, View(marked, "+" + axis).bounds)
        self.assertEqual(set(told), {"whole", "part", "hidden", "back", "end", "outline", "seam", "step"})
        self.assertGreater(min(told.values()), 60, told)

    def test_random_cells(self):
        source = random.Random(171)
        room = sorted(cells_of([((0, 0, 0), (3, 3, 3))]))
        for _ in range(25):
            marked, surface = made_of(source.sample(room, source.randrange(1, 16)))
            plain = Plain(surface)
            for side in SIDES:
                self.agree(marked, plain, side)

    def test_holes_and_rooms(self):
        for inner in [box(1, 1, 0, 3, 3, 4), box(1, 1, 1, 3, 4, 2), box(2, 2, 3, 5, 3, 4), box(0, 0, 2, 2, 2, 4)]:
            for many in range(3):
                cells = {cell[many:] + cell[:many] for cell in cells_of([box(0, 0, 0, 5, 5, 4)]) - cells_of([inner])}
                marked, surface = made_of(cells)
                plain = Plain(surface)
                for side in SIDES:
                    self.agree(marked, plain, side)
        room = block(box(0, 0, 0, 5, 5, 5), "a").cut(block(box(1, 1, 1, 4, 4, 4), "b"))
        view = View(room, "+z")
        self.assertEqual([name[1] for name in view.faces], ["a/+z"])
        self.assertEqual(Counter(view.state_of(face.name) for face in faces(room)), {"whole": 1, "hidden": 1, "back": 2, "end": 8})

    def test_example_of_the_interface(self):
        low, high = block(((0, 0, 0), (4, 4, 2)), "low"), block(((2, 0, 0), (6, 4, 2)), "high")
        both = low.joined(high)
        cut = both.cut(block(((3, 0, 1), (5, 4, 2)), "slot"))
        top = View(cut, "+z")
        self.assertEqual([top.shadow, [name[1] for name in top.faces], top.seen(3, 0)[1], top.seen_area(top.seen(4, 2)[0]), top.seen(6, 0)],
                         [24, ['high/+z', 'low/+z', 'slot/-z'], 1, 8, None])

    def test_rows_end_where_a_face_changes(self):
        low, high = block(box(0, 0, 0, 4, 4, 2), "low"), block(box(2, 0, 0, 6, 4, 2), "high")
        view = View(low.joined(high).joined(block(box(1, 1, 2, 2, 4, 3), "post")), "+z")
        short = [(start, end, lower and lower[1], upper and upper[1], kind) for start, end, lower, upper, kind in view.drawing()]
        self.assertEqual(short, [
            ((0, 0), (0, 4), None, "low/+z", "outline"), ((0, 0), (4, 0), None, "low/+z", "outline"), ((0, 4), (1, 4), "low/+z", None, "outline"),
            ((1, 1), (1, 4), "low/+z", "post/+z", "step"), ((1, 1), (2, 1), "low/+z", "post/+z", "step"), ((1, 4), (2, 4), "post/+z", None, "outline"),
            ((2, 1), (2, 4), "post/+z", "low/+z", "step"), ((2, 4), (4, 4), "low/+z", None, "outline"), ((4, 0), (4, 4), "low/+z", "high/+z", "seam"),
            ((4, 0), (6, 0), None, "high/+z", "outline"), ((4, 4), (6, 4), "high/+z", None, "outline"), ((6, 0), (6, 4), "high/+z", None, "outline")])
        view.drawing().clear()
        self.assertEqual(len(view.drawing()), 12)

    def test_kinds_of_values(self):
        view = View(block(box(0, 0, 0, 3, 4, 5), "a"), "-y")
        self.assertEqual([view.side, view.shadow, view.bounds], ["-y", 15, ((0, 0), (5, 3))])
        self.assertEqual([type(view.faces), type(view.seen(0, 0)), type(view.drawing()), type(view.drawing()[0])], [tuple, tuple, list, tuple])
        self.assertEqual(list(view.walk()), [(0, 0, 5, 3, view.faces[0])])
        walked = view.walk()
        self.assertEqual([next(walked), list(walked)], [(0, 0, 5, 3, view.faces[0]), []])
        self.assertEqual(View(block(box(3, 4, 0, 4, 5, 9), "a"), "+z").bounds, ((3, 4), (4, 5)))

    def test_without_cells(self):
        for side in SIDES:
            view = View(nothing(), side)
            self.assertEqual([view.side, view.faces, view.shadow, view.bounds, view.seen(0, 0), view.drawing(), list(view.walk())],
                             [side, (), 0, None, None, [], []])
            self.assertEqual(caught(view.state_of, names(block(box(0, 0, 0, 1, 1, 1), "a"))[0])[0], "UnknownName")

    def test_great_coordinates(self):
        great = block(box(-LIMIT, -LIMIT, -LIMIT, LIMIT, LIMIT, LIMIT), "a").cut(block(box(0, -7, 5, LIMIT, LIMIT, LIMIT), "b"))
        view = View(marked=great, side="+z")
        self.assertEqual([view.shadow, view.bounds], [4 * LIMIT ** 2, ((-LIMIT, -LIMIT), (LIMIT, LIMIT))])
        floor = [name for name in view.faces if name[1] == "b/-z"][0]
        self.assertEqual([view.seen_area(floor), view.seen(0, -7), view.seen(v=-8, u=0)[1]], [LIMIT * (LIMIT + 7), (floor, 5), LIMIT])
        self.assertEqual([view.seen(LIMIT, 0), view.seen(-LIMIT - 1, 0), view.seen(10 ** 999, -10 ** 999)], [None] * 3)
        self.assertEqual([line[:2] for line in view.drawing() if line[4] == "step"], [((0, -7), (0, LIMIT)), ((0, -7), (LIMIT, -7))])
        self.assertEqual(sum((c - a) * (d - b) for a, b, c, d, _ in view.walk()), view.shadow)
        self.assertEqual(Counter(view.state_of(edge.name) for edge in edges(great))["end"], 7)


class OtherTest(unittest.TestCase):
    MARKED = block(box(0, 0, 0, 4, 4, 4), "a").joined(block(box(1, 1, 4, 2, 2, 6), "b"))

    def test_states_of_all_kinds(self):
        view = View(self.MARKED, "+z")
        self.assertEqual({view.state_of(name=face.name): face.side for face in faces(self.MARKED) if face.side in "+z-z"}, {"whole": "+z", "back": "-z"})
        self.assertEqual([view.state_of(face.name) for face in faces(self.MARKED) if face.side[1] != "z"], ["end"] * 8)
        side = View(self.MARKED, "+x")
        self.assertEqual([side.state_of(face.name) for face in faces(self.MARKED) if face.side == "+x"], ["whole", "whole"])
        behind = self.MARKED.joined(block(box(6, 0, 0, 7, 3, 9), "c"))
        side = View(behind, "+x")
        self.assertEqual({face.origin: side.state_of(face.name) for face in faces(behind) if face.side == "+x"},
                         {"a/+x": "part", "b/+x": "hidden", "c/+x": "whole"})
        self.assertEqual([side.seen_area(face.name) for face in faces(behind) if face.side == "+x"], [4, 0, 27])
        words = Counter(side.state_of(edge.name) for edge in edges(behind))
        self.assertEqual(set(words), {"whole", "part", "hidden", "end"})

    def test_unknown_names(self):
        for side in ("+z", "-x"):
            view = View(self.MARKED, side)
            for value in any_values() + strings() + numbers():
                for call in (view.state_of, view.seen_area):
                    error = caught(call, value)
                    self.assertEqual((error[0], error[1] is value), ("UnknownName", True))
            for name in names(self.MARKED):
                wrong = list(bent(name)) + ([name] if name[0] == "corner" else [])
                for value in wrong:
                    error = caught(view.state_of, value)
                    self.assertEqual((error[0], error[1] is value), ("UnknownName", True))
                for value in wrong + ([name] if name[0] == "edge" else []):
                    error = caught(view.seen_area, value)
                    self.assertEqual((error[0], error[1] is value), ("UnknownName", True))
        self.assertEqual(caught(View(nothing(), "+z").seen_area, name=names(self.MARKED)[0]), ("UnknownName", names(self.MARKED)[0]))

    def test_numbers(self):
        view = View(self.MARKED, "+z")
        for value in any_values() + strings():
            for call in (lambda: view.seen(value, 0), lambda: view.seen(0, value), lambda: view.seen(value, None)):
                error = caught(call)
                self.assertEqual((error[0], error[1] is value), ("InvalidNumber", True))

    def test_sides(self):
        for value in any_values() + strings() + numbers() + ["x", "z", "+X", "z+", "+", "+xx", ("+x",), ["+x"]]:
            if value not in SIDES:
                for marked in (self.MARKED, nothing()):
                    error = caught(View, marked, value)
                    self.assertEqual((error[0], error[1] is value), ("InvalidSide", True))

    def test_equality(self):
        views = [View(marked, side) for side in SIDES for marked in (self.MARKED, nothing(), self.MARKED.moved(0, 0, 1), block(box(0, 0, 0, 4, 4, 4), "a"))]
        for place, view in enumerate(views):
            again = [View(marked, side) for side in SIDES
                     for marked in (self.MARKED.moved(0, 0, 0), nothing(), self.MARKED.moved(0, 0, 1), block(box(0, 0, 0, 4, 4, 4), "a"))]
            self.assertEqual([other == view for other in again], [number == place for number in range(len(again))])
            for value in any_values() + [view.side, self.MARKED]:
                self.assertFalse(view == value)


if __name__ == "__main__":
    unittest.main()
