"""[50] to [52], names and find."""

import random
import unittest

from solidnames.edges import Corner, Edge, corners, edges
from solidnames.faces import Face, faces
from solidnames.marked import block, nothing
from solidnames.names import find, names
from tests.cells import SIDES, Surface, beside, random_box
from tests.helpers import LIMIT, any_values, numbers, strings
from tests.plainfaces import Plain
from tests.test_faces import made_of, random_made


def bent(value):
    """Values that are not quite this name."""
    yield from (list(value), value + (0,), value[:-1], (value,), {1: value})
    for index, item in enumerate(value):
        others = [None, (), "", 7, "a", -1, item.upper() if isinstance(item, str) else (item,)]
        if item in (0, 1) and not isinstance(item, tuple):
            others += [bool(item), item + 5, str(item)]
        if isinstance(item, tuple):
            others += list(bent(item))
        for other in others:
            if other != item or isinstance(other, bool):
                yield value[:index] + (other,) + value[index + 1:]


class NamesTest(unittest.TestCase):
    def test_in_order(self):
        source = random.Random(30)
        for _ in range(20):
            marked, surface = random_made(source, 5, 5, "ab")
            plain, made = Plain(surface), names(marked)
            self.assertEqual(made, sorted(plain.names) + [row[0] for row in plain.edges()] + [row[0] for row in plain.corners()])
            self.assertEqual(len(set(made)), len(made))
        self.assertEqual(names(marked=nothing()), [])
        pad = block(((0, 0, 0), (1, 1, 1)), "a")
        self.assertEqual([len(names(pad)), [name[0] for name in names(pad)]], [26, ["face"] * 6 + ["edge"] * 12 + ["corner"] * 8])
        names(pad).clear()
        self.assertEqual(len(names(pad)), 26)

    def test_find(self):
        source = random.Random(31)
        for _ in range(8):
            marked, _ = random_made(source, 5, 4, "ab")
            for call, kind in ((faces, Face), (edges, Edge), (corners, Corner)):
                for item in call(marked):
                    found = find(marked, item.name)
                    self.assertIsInstance(found, kind)
                    self.assertEqual(found, item)
            self.assertEqual(find(name=faces(marked)[0].name, marked=marked), faces(marked)[0])

    def test_find_any_value(self):
        pad = block(((0, 0, 0), (2, 2, 2)), "a").cut(block(((1, 0, 1), (2, 2, 2)), "b"))
        for value in any_values() + numbers() + strings() + ["face", ("face",), ("edge",), ("corner",), (pad,), ("face", pad)]:
            self.assertIsNone(find(pad, value), repr(value))
            self.assertIsNone(find(nothing(), value), repr(value))
        for name in names(pad):
            self.assertIsNone(find(nothing(), name))
            self.assertIsNone(find(pad.within("c"), name))
            for value in bent(name):
                self.assertIsNone(find(pad, value), repr(value))

    def test_long_origins(self):
        """Also names that are no picks are found."""
        pad = block(((0, 0, 0), (2, 2, 2)), "a")
        for _ in range(60):
            pad = pad.within("abcdefgh")
        self.assertGreater(len(pad.origins[0]), 400)
        for name in names(pad):
            self.assertEqual(find(pad, name).name, name)


class PromiseTest(unittest.TestCase):
    """[52]"""

    def history(self, source, many):
        """Operations with boxes."""
        return [(source.choice(["joined", "joined", "cut"]), random_box(source, 0, 6), source.choice("abc")) for _ in range(many)]

    def made(self, history, tables):
        marked = nothing()
        for word, (low, high), name in history:
            box = tuple(tuple(table[number] for table, number in zip(tables, corner)) for corner in (low, high))
            marked = getattr(marked, word)(block(box, name))
        return marked

    def test_other_coordinates_in_the_same_order(self):
        source = random.Random(32)
        for _ in range(40):
            history = self.history(source, 7)
            plain = self.made(history, [range(7)] * 3)
            tables = [sorted(source.sample(range(-50, 50), 7)), [-LIMIT, -5, -4, 0, 1, LIMIT - 1, LIMIT],
                      sorted(source.randrange(-LIMIT, LIMIT) for _ in range(7))]
            source.shuffle(tables)
            other = self.made(history, tables)

            def place(point):
                return tuple(table[number] for table, number in zip(tables, point))
            self.assertEqual(names(plain), names(other))
            for one, new in zip(faces(plain), faces(other)):
                self.assertEqual([new.side, new.at, new.least],
                                 [one.side, tables["xyz".index(one.side[1])][one.at], place(one.least)])
            for one, new in zip(edges(plain), edges(other)):
                self.assertEqual([new.name, new.start, new.end, new.kind], [one.name, place(one.start), place(one.end), one.kind])
            for one, new in zip(corners(plain), corners(other)):
                self.assertEqual([new.name, new.point], [one.name, place(one.point)])

    def test_moved_and_mirrored(self):
        source = random.Random(33)
        for _ in range(25):
            marked, _ = random_made(source, 5, 5, "ab")
            far = marked.moved(10 ** 29, -10 ** 29, 3)
            self.assertEqual(names(far), names(marked))
            self.assertEqual([face.at for face in faces(far) if face.side == "+z"],
                             [face.at + 3 for face in faces(marked) if face.side == "+z"])
            for axis in "xyz":
                other = marked.mirrored(axis, 1)

                def without_numbers(name):
                    if name[0] == "face":
                        return name[:3] + name[4:]
                    if name[0] == "edge":
                        return ("edge", *sorted(map(without_numbers, name[1:3])), name[4])
                    return ("corner", *sorted(map(without_numbers, name[1])))
                for call in (faces, edges, corners):
                    self.assertEqual(sorted(without_numbers(item.name) for item in call(other)),
                                     sorted(without_numbers(item.name) for item in call(marked)))
                self.assertEqual([find(other, name).area for name in names(other) if name[0] == "face" and name[4] == 1],
                                 [find(marked, name).area for name in names(marked) if name[0] == "face" and name[4] == 1])

    def test_what_an_operation_leaves_alone(self):
        source = random.Random(34)
        left_alone = 0
        for _ in range(60):
            marked, surface = random_made(source, 6, 5, "abc")
            box, word = random_box(source, 0, 7), source.choice(["joined", "cut"])
            before = Plain(surface)
            after = Plain(getattr(surface, word)(Surface.of_box(box, "tool")))
            made = getattr(marked, word)(block(box, "tool"))
            self.assertEqual(sorted(after.names), [face.name for face in faces(made)])
            sets = [set(map(frozenset, plain.faces)) for plain in (before, after)]
            for index, face in enumerate(before.faces):
                if frozenset(face) not in sets[1]:
                    continue
                now = [k for k, other in enumerate(after.faces) if other == face][0]
                met = []
                for plain, here, others in ((before, index, sets[1]), (after, now, sets[0])):
                    pairs = [{plain.face_of[one], plain.face_of[other]} for _, one, other, _ in plain.links]
                    met += [frozenset(plain.faces[k]) in others for pair in pairs if here in pair for k in pair]
                if all(met):
                    left_alone += 1
                    self.assertEqual(before.names[index][1:3], after.names[now][1:3])
        self.assertGreater(left_alone, 50)

    def test_an_operation_that_only_touches(self):
        marked, surface = made_of({(0, 0, 0), (1, 0, 0), (5, 5, 5)})
        far = {name for name in names(marked) if name[0] == "face"}
        made = marked.joined(block(((9, 9, 9), (10, 10, 10)), "tool"))
        self.assertTrue(far <= set(names(made)))
        self.assertEqual(len(surface.origins), sum(beside(cell, side) not in surface.cells for cell in surface.cells for side in SIDES))


if __name__ == "__main__":
    unittest.main()
