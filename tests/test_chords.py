"""[90], [97]: chords."""

import random
import unittest
from collections import Counter

from solidnames.chords import chords
from solidnames.faces import faces
from solidnames.marked import block, nothing
from tests.cells import beside
from tests.helpers import AXES, LIMIT, any_values, caught, numbers, strings
from tests.plainfaces import Plain
from tests.test_faces import random_made


def plain_chords(plain, axis):
    counts, cells = Counter(), plain.surface.cells
    for cell in cells:
        if beside(cell, "-" + axis) not in cells:
            end, length = cell, 1
            while beside(end, "+" + axis) in cells:
                end, length = beside(end, "+" + axis), length + 1
            pair = [plain.names[plain.face_of[square]] for square in ((cell, "-" + axis), (end, "+" + axis))]
            counts[(*pair, length)] += 1
    return sorted((*key, count) for key, count in counts.items())


class ChordsTest(unittest.TestCase):
    def test_example_of_the_interface(self):
        part = block(((0, 0, 0), (4, 4, 2)), "plate").joined(block(((1, 1, 2), (2, 3, 5)), "post"))
        self.assertEqual([(name[1], other[1], length, count) for name, other, length, count in chords(part, "z")],
                         [('plate/-z', 'plate/+z', 2, 14), ('plate/-z', 'post/+z', 5, 2)])

    def test_random_solids(self):
        source = random.Random(90)
        for count in range(60):
            marked, surface = random_made(source, source.choice([3, 4, 6]), source.randrange(9), "abc"[:count % 3 + 1])
            plain = Plain(surface)
            areas = {face.name: face.area for face in faces(marked)}
            begun, ended = Counter(), Counter()
            for axis in AXES:
                found = chords(marked, axis)
                self.assertEqual(found, plain_chords(plain, axis))
                self.assertEqual(sum(length * many for _, _, length, many in found), marked.to_solid().volume)
                for name, other, _, many in found:
                    begun[name] += many
                    ended[other] += many
            for face in faces(marked):
                counted = begun if face.side[0] == "-" else ended
                self.assertEqual(counted[face.name], areas[face.name])

    def test_several_runs_in_a_column(self):
        slab = block(((0, 0, 0), (3, 2, 9)), "a")
        for z in (1, 5):
            slab = slab.cut(block(((0, 0, z), (2, 2, z + 2)), "b"))
        self.assertEqual(Counter({length: sum(row[3] for row in chords(slab, "z") if row[2] == length) for length in (1, 2, 9)}),
                         Counter({1: 4, 2: 8, 9: 2}))

    def test_great_counts(self):
        great = block(((-LIMIT,) * 3, (LIMIT,) * 3), "great").cut(block(((0, 0, 5), (LIMIT,) * 3), "slot"))
        rows = {(name[1], other[1]): (length, many) for name, other, length, many in chords(great, "z")}
        self.assertEqual(rows, {("great/-z", "great/+z"): (2 * LIMIT, 3 * LIMIT ** 2), ("great/-z", "slot/-z"): (LIMIT + 5, LIMIT ** 2)})
        self.assertEqual(sum(row[2] * row[3] for row in chords(marked=great, axis="x")), great.to_solid().volume)

    def test_errors(self):
        self.assertEqual(chords(nothing(), "x"), [])
        for value in any_values() + numbers() + [text for text in strings() if text != "x"] + ["+x", "X"]:
            for marked in (nothing(), block(((0, 0, 0), (1, 1, 1)), "a")):
                error = caught(chords, marked, value)
                self.assertEqual((error[0], error[1] is value), ("InvalidAxis", True))
        chords(block(((0, 0, 0), (1, 1, 1)), "a"), "x").clear()


if __name__ == "__main__":
    unittest.main()
