"""[60] to [62]: is_pick and resolve."""

import random
import re
import unittest

from solidnames.marked import block, nothing
from solidnames.names import find, names
from solidnames.picks import is_pick, resolve
from tests.cells import Surface, random_box
from tests.helpers import any_values, caught, numbers, strings
from tests.plainfaces import Plain
from tests.test_faces import made_of, random_made
from tests.test_names import bent

FACE = ("face", "a/+x", ("a/+y", "a/-y"), 0, 1)
OTHER = ("face", "a/+y", ("a/+x",), 1, 3)
THIRD = ("face", "b/+y", ("a/+x", "b"), 0, 2)
EDGE = ("edge", FACE, OTHER, 0, 2)
CORNER = ("corner", (FACE, OTHER, THIRD), 1, 2)


def plain_meaning(plain, pick):
    """[60] to [62] word for word."""
    def of_face(face):
        word, origin, around, number, many = face
        alike = [name for name in plain.names if name[1] == origin and name[2] == around]
        if len(alike) == many:
            return {(word, origin, around, number, many)}
        if alike:
            return set(alike)
        near = [name for name in plain.names if name[1] == origin]
        most = max((len(set(name[2]) & set(around)) for name in near), default=0)
        return {name for name in near if len(set(name[2]) & set(around)) == most}

    if pick[0] == "face":
        found = sorted(of_face(pick))
    else:
        picks = pick[1:3] if pick[0] == "edge" else pick[1]
        rows = plain.edges() if pick[0] == "edge" else plain.corners()
        lists = [of_face(face) for face in picks]
        found = []
        for row in rows:
            met = row[0][1:3] if pick[0] == "edge" else row[0][1]
            if all(any(name in one for one in lists) for name in met) and all(one & set(met) for one in lists):
                found.append(row[0])
        if all(len(one) == 1 for one in lists) and len(found) == pick[-1]:
            found = [found[pick[-2]]]
    if len(found) == 1:
        return ("same" if found[0] == pick else "changed", found[0])
    return ("unclear", tuple(sorted(found))) if found else ("lost",)


class IsPickTest(unittest.TestCase):
    def test_names(self):
        source = random.Random(40)
        for _ in range(10):
            marked, _ = random_made(source, 5, 5, "ab")
            for name in names(marked):
                self.assertIs(is_pick(name), True)
        for name in (FACE, OTHER, THIRD, EDGE, CORNER):
            self.assertIs(is_pick(value=name), True)

    def test_any_value(self):
        for value in any_values() + numbers() + strings() + [
                ("face",), ("edge",), ("corner",), "face", ["face"], (None,) * 5, (None,) * 4, ("face", *[None] * 4),
                ("edge", *[None] * 4), ("corner", *[None] * 3), ("corner", (), 0, 1), ("edge", (), (), 0, 1)]:
            self.assertIs(is_pick(value), False, repr(value))
            error = caught(resolve, nothing(), value)
            self.assertEqual((error[0], error[1] is value), ("InvalidPick", True))
        for name in (FACE, EDGE, CORNER):
            self.assertIs(is_pick(list(name)), False)

    def test_bent_names(self):
        for value in bent(FACE):
            good = isinstance(value, tuple) and len(value) == 5 and value[0] == "face" and isinstance(value[2], tuple)
            good = good and all(isinstance(one, str) and re.fullmatch("[a-z0-9/+-]{1,400}", one) for one in (value[1], *value[2]))
            good = good and list(value[2]) == sorted(set(value[2])) != []
            good = good and [type(number) for number in value[3:]] == [int, int] and 0 <= value[3] < value[4] <= 10 ** 6
            self.assertEqual(is_pick(value), good, repr(value))
        for name in (EDGE, CORNER):
            for value in bent(name):
                if is_pick(value):
                    self.assertIsInstance(value, tuple)
                    self.assertEqual([value[0], len(value)], [name[0], len(name)])
                    self.assertNotIsInstance(value[-1], bool)
                    self.assertNotIsInstance(value[-2], bool)

    def face(self, **changed):
        given = {"origin": "a", "around": ("a",), "number": 0, "many": 1, **changed}
        return ("face", given["origin"], given["around"], given["number"], given["many"])

    def test_origins(self):
        for origin in ["a", "z", "0", "9", "/", "+", "-", "a" * 400, "a/b/+x-09", "base/side/east"]:
            self.assertTrue(is_pick(self.face(origin=origin)))
            self.assertTrue(is_pick(self.face(around=(origin,))))
        for origin in ["", "a" * 401, "A", "a b", " a", "a\n", "a_", "a.", "a{", "a`", "a:", ",", "~", None, 1, True, ("a",), ["a"], b"a"]:
            self.assertFalse(is_pick(self.face(origin=origin)), repr(origin))
            self.assertFalse(is_pick(self.face(around=(origin,))), repr(origin))
            self.assertFalse(is_pick(self.face(around=("a", origin))), repr(origin))

    def test_around(self):
        for around in [("a",), ("a", "b"), ("+", "-", "/", "0", "a"), ("a" * 400, "b" * 400)]:
            self.assertTrue(is_pick(self.face(around=around)))
        for around in [(), ("b", "a"), ("a", "a"), ("a", "b", "b"), ("a", "c", "b"), ["a"], "a", "ab", None, {"a": 1}, 1]:
            self.assertFalse(is_pick(self.face(around=around)), repr(around))

    def test_numbers(self):
        def each(number, many):
            return [is_pick(self.face(number=number, many=many)), is_pick(EDGE[:3] + (number, many)), is_pick(CORNER[:2] + (number, many))]
        for number, many in [(0, 1), (0, 10 ** 6), (10 ** 6 - 1, 10 ** 6), (4, 5)]:
            self.assertEqual(each(number, many), [True] * 3)
        for number, many in [(0, 0), (1, 1), (-1, 1), (2, 1), (0, 10 ** 6 + 1), (10 ** 6, 10 ** 6 + 1), (False, 1), (0, True),
                             (0, "1"), ("0", 1), (None, 1), (0, None), (0, -1), (0, (1,)), ([0], 1), (0, 10 ** 999)]:
            self.assertEqual(each(number, many), [False] * 3, (number, many))

    def test_edges_and_corners(self):
        for value in [("edge", OTHER, FACE, 0, 1), ("edge", FACE, FACE, 0, 1), ("edge", EDGE, EDGE, 0, 1), ("edge", FACE, EDGE, 0, 1),
                      ("edge", FACE, None, 0, 1), ("edge", (FACE, OTHER), 0, 1), ("edge", FACE, OTHER, THIRD, 0, 1),
                      ("corner", (FACE,), 0, 1), ("corner", (OTHER, FACE), 0, 1), ("corner", (FACE, FACE), 0, 1),
                      ("corner", (FACE, THIRD, OTHER), 0, 1), ("corner", [FACE, OTHER], 0, 1), ("corner", FACE, OTHER, 0, 1),
                      ("corner", (FACE, EDGE), 0, 1), ("corner", (FACE, OTHER, list(THIRD)), 0, 1), ("corner", FACE, 0, 1),
                      ("Face", *FACE[1:]), ("edge", *FACE[1:]), ("corner", *CORNER[1:], 0), ("edge", FACE, OTHER, 0)]:
            self.assertFalse(is_pick(value), repr(value))
        for value in [("edge", FACE, OTHER, 0, 1), ("corner", (FACE, OTHER), 0, 1), ("corner", (FACE, OTHER, THIRD), 0, 1)]:
            self.assertTrue(is_pick(value))


class ResolveTest(unittest.TestCase):
    LOW, HIGH = block(((0, 0, 0), (4, 4, 2)), "low"), block(((2, 0, 0), (6, 4, 2)), "high")

    def test_example_of_the_interface(self):
        low, high = self.LOW, self.HIGH
        both = low.joined(high)
        top = find(both, ("face", "low/+z", ("high/+z", "low/+y", "low/-x", "low/-y"), 0, 1))
        self.assertEqual([top.area, resolve(both, top.name)[0], resolve(low, top.name)[0], resolve(high, top.name)],
                         [16, 'same', 'changed', ('lost',)])
        self.assertEqual(resolve(pick=top.name, marked=low),
                         ("changed", ("face", "low/+z", ("low/+x", "low/+y", "low/-x", "low/-y"), 0, 1)))

    def test_each_name_means_itself(self):
        source = random.Random(41)
        for _ in range(12):
            marked, _ = random_made(source, 5, 5, "ab")
            for name in names(marked):
                self.assertEqual(resolve(marked, name), ("same", name))
                self.assertEqual(resolve(nothing(), name), ("lost",))

    def test_names_of_other_solids(self):
        source = random.Random(42)
        words = {kind: set() for kind in ("face", "edge", "corner")}
        for _ in range(40):
            marked, surface = random_made(source, 5, 5, "ab")
            for _ in range(2):
                box, word = random_box(source, 0, 5), source.choice(["joined", "cut"])
                name = source.choice("abt")
                marked, before = getattr(marked, word)(block(box, name)), marked
                surface = getattr(surface, word)(Surface.of_box(box, name))
                plain = Plain(surface)
                for pick in source.sample(names(before), min(30, len(names(before)))):
                    answer = resolve(marked, pick)
                    self.assertEqual(answer, plain_meaning(plain, pick))
                    words[pick[0]].add(answer[0])
        self.assertEqual(list(map(len, words.values())), [4, 4, 4])

    def test_picks_with_other_counts(self):
        source = random.Random(43)
        for _ in range(25):
            marked, surface = random_made(source, 5, 6, "ab")
            plain = Plain(surface)
            found = names(marked)
            for pick in source.sample(found, min(25, len(found))):
                many = source.choice([pick[-1], pick[-1] + 1, source.randrange(1, 5)])
                number = source.randrange(many)
                changed = pick[:-2] + (number, many)
                if pick[0] != "face" and source.random() < 0.5:
                    mets = list(pick[1:3] if pick[0] == "edge" else pick[1])
                    at = source.randrange(len(mets))
                    mets[at] = mets[at][:3] + source.choice([(0, 1), (0, 2), (1, 2), (0, 7)])
                    mets = tuple(sorted(set(mets)))
                    if len(mets) >= 2:
                        changed = ("edge", *mets, number, many) if pick[0] == "edge" else ("corner", mets, number, many)
                self.assertTrue(is_pick(changed))
                self.assertEqual(resolve(marked, changed), plain_meaning(plain, changed))

    def test_tries(self):
        # Two slots in a bar: three tops with one origin and one around, and two floors.
        cells = {(x, y, z) for x in range(7) for y in range(2) for z in range(2)} - {(2, y, 1) for y in (0, 1)} - {(5, y, 1) for y in (0, 1)}
        bar = made_of(cells)[0]
        tops = [name for name in names(bar) if name[0] == "face" and name[1] == "a/+z"]
        self.assertEqual([name[3:] for name in tops], [(number, 5) for number in range(5)])
        _, origin, around, _, _ = tops[0]
        for number in range(5):
            self.assertEqual(resolve(bar, ("face", origin, around, number, 5)), ("same", tops[number]))
        # Another count: all with this origin and around.
        for number, many in [(0, 1), (0, 2), (3, 4), (0, 6), (5, 6), (0, 10 ** 6)]:
            self.assertEqual(resolve(bar, ("face", origin, around, number, many)), ("unclear", tuple(tops)))
        # Another around: those with the most common origins, whatever the count.
        self.assertEqual(resolve(bar, ("face", origin, ("a/+y", "q"), 0, 5)), ("unclear", tuple(tops)))
        self.assertEqual(resolve(bar, ("face", origin, ("q",), 0, 1)), ("unclear", tuple(tops)))
        self.assertEqual(resolve(bar, ("face", "q", around, 0, 1)), ("lost",))
        self.assertEqual(resolve(bar, ("face", "a/+", around, 0, 1)), ("lost",))

    def test_most_origins_in_common(self):
        post = block(((1, 1, 2), (3, 3, 5)), "post")
        base = self.LOW.joined(block(((20, 0, 0), (24, 4, 2)), "low")).joined(post)
        tops = [name for name in names(base) if name[0] == "face" and name[1] == "low/+z"]
        self.assertEqual(len(tops), 2)
        near = [name for name in tops if "post/-x" in name[2]][0]
        far = [name for name in tops if name != near][0]
        self.assertEqual(resolve(base, ("face", "low/+z", ("low/+x", "post/+x"), 0, 1)), ("changed", near))
        self.assertEqual(resolve(base, ("face", "low/+z", ("low/+x", "q"), 0, 1)), ("unclear", tuple(tops)))
        self.assertEqual(resolve(base, ("face", "low/+z", far[2], 0, 1)), ("same", far))
        self.assertEqual(resolve(base, ("face", "low/+z", far[2], 1, 2)), ("changed", far))
        self.assertEqual(resolve(base, ("face", "low/+z", far[2][:3], 0, 1)), ("unclear", tuple(tops)))

    def test_edges_with_one_and_with_several_candidates(self):
        cells = {(x, y, z) for x in range(6) for y in range(2) for z in range(2)} - {(1, 0, 1), (4, 0, 1)}
        bar = made_of(cells)[0]
        several = [name for name in names(bar) if name[0] == "edge" and name[4] == 3]
        pick = several[0]
        for number in range(3):
            self.assertEqual(resolve(bar, (*pick[:3], number, 3)), ("same", (*pick[:3], number, 3)))
        for number, many in [(0, 1), (1, 2), (0, 4)]:
            self.assertEqual(resolve(bar, (*pick[:3], number, many)), ("unclear", tuple((*pick[:3], k, 3) for k in range(3))))
        both = block(((0, 0, 0), (1, 1, 1)), "a").joined(block(((3, 0, 0), (4, 1, 1)), "a"))
        face, other = sorted(name for name in names(both) if name[0] == "face" and name[1] in ("a/+x", "a/+z") and name[3] == 0)
        edges_there = tuple(name for name in names(both) if name[0] == "edge" and [one[1] for one in name[1:3]] == ["a/+x", "a/+z"])
        self.assertEqual(len(edges_there), 2)
        self.assertEqual(resolve(both, ("edge", face, other, 0, 1)), ("same", ("edge", face, other, 0, 1)))
        # With a count as before, but two candidates of a face: the number chooses none of them.
        unsure = other[:3] + (0, 1)
        self.assertEqual(resolve(both, ("edge", face, unsure, 0, 1)), ("changed", ("edge", face, other, 0, 1)))
        loose = face[:3] + (0, 1)
        self.assertEqual(resolve(both, ("edge", loose, unsure, 1, 2)), ("unclear", edges_there))
        self.assertEqual(resolve(both, ("edge", loose, ("face", "q", ("a",), 0, 1), 0, 1)), ("lost",))

    def test_several_picks_of_one_face(self):
        """Picks of different faces that came together: no edge has one face twice."""
        pad = block(((0, 0, 0), (2, 2, 2)), "a")
        top, right = [name for name in names(pad) if name[1] in ("a/+z", "a/+x")][::-1]
        front = [name for name in names(pad) if name[1] == "a/-y"][0]
        twin = top[:2] + (top[2][:2], 0, 1)
        self.assertEqual(resolve(pad, ("edge", *sorted((top, twin)), 0, 1)), ("lost",))
        three = tuple(sorted((top, twin, right, front)))
        corner = [name for name in names(pad) if name[0] == "corner" and set(name[1]) == {top, right, front}][0]
        self.assertEqual(resolve(pad, ("corner", three, 0, 1)), ("changed", corner))

    def test_errors(self):
        pad = block(((0, 0, 0), (2, 2, 2)), "a")
        for name in names(pad)[:8] + names(pad)[-2:]:
            for value in bent(name):
                if not is_pick(value):
                    error = caught(resolve, pad, value)
                    self.assertEqual((error[0], error[1] is value), ("InvalidPick", True))
                else:
                    self.assertIn(resolve(pad, value)[0], ("same", "changed", "unclear", "lost"))


if __name__ == "__main__":
    unittest.main()
