"""[111] to [115]: marks, orders, and stable ranges."""

import random
import unittest
from collections import Counter

from solidnames.features import Add, Copy, Cut, Keep, Mirror, Push
from solidnames.names import names
from solidnames.parts import Part
from solidnames.ranges import breaks, marks, same_order, stable
from tests.helpers import AXES, LIMIT, any_values, caught, numbers, strings
from tests.plainmarks import plain_break, plain_marks, plain_same_order
from tests.randomparts import random_feature
from tests.test_evaluation import BASE, EAST, LOST, SQUARE, TOP, WEST, sketch_of
from tests.test_parts import keep, made

# Named so that the order of names is neither that of the sides nor that of the positions.
ODD = sketch_of(s="7", e="30", n="9", w="-2")
HOLE = Cut("hole", sketch_of(s="1", e="2", n="3", w="1"), ("flat", "z", "0"), ("all",))
# The top of the base with a hole in it.
HOLED_TOP = ("face", "base/end", TOP[2] + ("hole/side/e", "hole/side/n", "hole/side/s", "hole/side/w"), 0, 1)


def told(*features, **texts):
    """The marks on x, y and z, a list."""
    part = made(*features, **texts)
    for name, status, _ in part.solids():
        assert status == ("ok",), (name, status)
    found = marks(part.result)
    assert list(found) == ["x", "y", "z"] and {type(row) for row in found.values()} == {tuple}
    return [found[axis] for axis in AXES]


class MarksTest(unittest.TestCase):
    def test_example_of_the_interface(self):
        part = Part()
        self.assertEqual(part.define("d", "2"), [])
        self.assertEqual(part.put(0, Keep("low", "x", "0", 1)) + part.put(1, Keep("here", "x", "d", 1)) + part.put(2, Keep("high", "x", "4", 1)),
                         ['low', 'here', 'high'])
        self.assertEqual([marks(part.result)["x"], stable(part, "d"), breaks(part, "d")],
                         [(0, 2, 4), (1, 3), (('order', 'x', 0, 1), ('order', 'x', 1, 2))])

    def test_add_and_cut(self):
        self.assertEqual(told(BASE), [(4, 0), (4, 0), (0, 2)])
        self.assertEqual(told(Add("a", ODD, ("flat", "z", "5"), ("by", "2"))), [(30, -2), (9, 7), (5, 7)])
        self.assertEqual(told(Add("a", ODD, ("flat", "z", "5"), ("back", "2"))), [(30, -2), (9, 7), (5, 3)])
        self.assertEqual(told(Add("a", ODD, ("flat", "z", "5"), ("back", "2"), ("10", "-100"))), [(40, 8), (-91, -93), (5, 3)])
        # u and v are y and z across x, z and x across y.
        self.assertEqual(told(Add("a", ODD, ("flat", "x", "5"), ("by", "2"), ("10", "-100"))), [(5, 7), (40, 8), (-91, -93)])
        self.assertEqual(told(Add("a", ODD, ("flat", "y", "5"), ("by", "2"), ("10", "-100"))), [(-91, -93), (5, 7), (40, 8)])
        cut = Cut("c", ODD, ("flat", "z", "1"), ("by", "8"))
        self.assertEqual(told(BASE, cut), [(4, 0, 30, -2), (4, 0, 9, 7), (0, 2, 1, 9)])
        self.assertEqual(told(BASE, Cut("c", ODD, ("flat", "x", "1"), ("all",), ("1", "1"))), [(4, 0), (4, 0, 31, -1), (0, 2, 10, 8)])
        self.assertEqual(told(), [(), (), ()])

    def test_picked_planes(self):
        self.assertEqual(told(BASE, Add("a", ODD, ("on", TOP, "3"), ("by", "2")))[2], (0, 2, 5, 7))
        self.assertEqual(told(BASE, Add("a", ODD, ("on", EAST, "3"), ("back", "2"))), [(4, 0, 7, 5), (4, 0, 30, -2), (0, 2, 9, 7)])
        # The front of the west side looks to lesser coordinates.
        self.assertEqual(told(BASE, Add("a", ODD, ("on", WEST, "3"), ("by", "2")))[0], (4, 0, -3, -5))
        self.assertEqual(told(BASE, Cut("a", ODD, ("on", WEST, "-1"), ("to", EAST)))[0], (4, 0, 1, 4))
        self.assertEqual(told(BASE, Add("a", ODD, ("flat", "x", "9"), ("to", WEST)))[0], (4, 0, 9, 0))
        self.assertEqual(told(BASE, Cut("a", ODD, ("on", WEST, "-1"), ("all",)))[0], (4, 0))

    def test_copies(self):
        row = Copy("row", "base", ("x", "10", "3"))
        self.assertEqual(told(BASE, row), [(4, 0, 14, 10, 24, 20), (4, 0) * 3, (0, 2) * 3])
        field = Copy("field", "base", ("x", "10", "2"), ("z", "-1", "2"))
        self.assertEqual(told(BASE, field), [(4, 0, 4, 0, 14, 10, 14, 10), (4, 0) * 4, (0, 2, -1, 1, 0, 2, -1, 1)])
        self.assertEqual(told(BASE, Copy("one", "base", ("x", "10", "1"), ("y", "3", "1"))), [(4, 0), (4, 0), (0, 2)])
        self.assertEqual(told(BASE, Copy("same", "base", ("y", "1", "2"), ("y", "5", "2")))[1], (4, 0, 9, 5, 5, 1, 10, 6))
        self.assertEqual(told(BASE, HOLE, Copy("holes", "hole", ("z", "1", "2"))), [(4, 0, 2, 1, 2, 1), (4, 0, 3, 1, 3, 1), (0, 2)])

    def test_mirrors(self):
        self.assertEqual(told(BASE, Mirror("twin", "base", "x", "5")), [(4, 0, 6, 10), (4, 0, 4, 0), (0, 2, 0, 2)])
        self.assertEqual(told(BASE, Mirror("twin", "base", "z", "-1")), [(4, 0, 4, 0), (4, 0, 4, 0), (0, 2, -2, -4)])
        self.assertEqual(told(BASE, HOLE, Mirror("twin", "hole", "y", "2")), [(4, 0, 2, 1, 2, 1), (4, 0, 3, 1, 1, 3), (0, 2)])
        self.assertEqual(told(BASE, HOLE, Mirror("twin", "hole", "z", "2"))[2], (0, 2))

    def test_push(self):
        self.assertEqual(told(BASE, Push("up", TOP, "3")), [(4, 0, 0, 4), (4, 0, 0, 4), (0, 2, 2, 5)])
        self.assertEqual(told(BASE, Push("up", TOP, "-1")), [(4, 0, 0, 4), (4, 0, 0, 4), (0, 2, 2, 1)])
        self.assertEqual(told(BASE, Push("up", TOP, "0")), [(4, 0), (4, 0), (0, 2, 2, 2)])
        self.assertEqual(told(BASE, Push("west", WEST, "3")), [(4, 0, 0, -3), (4, 0, 0, 4), (0, 2, 0, 2)])
        self.assertEqual(told(BASE, HOLE, Push("up", HOLED_TOP, "1")), [(4, 0, 2, 1, 0, 1, 2, 4), (4, 0, 3, 1, 0, 1, 3, 4), (0, 2, 2, 3)])

    def test_lines_of_the_tool_are_those_of_its_cells(self):
        # The origins around the pushed face change at y = 2, but not its outline.
        half = Add("half", sketch_of(s="2", e="9", n="4", w="4"), ("flat", "z", "0"), ("by", "2"))
        part = made(BASE, half, Push("up", TOP, "1"))
        self.assertEqual(part.result.status("up"), ("ok",))
        self.assertEqual(marks(part.result)["y"][-2:], (0, 4))
        self.assertIn(2, part.result.marked.lines("y"))

    def test_keep(self):
        self.assertEqual(told(keep("a", "7"), Keep("b", "y", "-2", -1), Keep("c", "x", "3", -1)), [(7, 3), (-2,), ()])

    def test_features_that_are_off_or_fail(self):
        part = made(BASE, Push("bad", LOST, "1"), Add("wrong", sketch_of(e="0"), ("flat", "z", "0"), ("by", "2")), keep("half", "1"),
                    Copy("row", "base", ("x", "5", "p")), p="2")
        self.assertEqual(marks(part.result), {"x": (4, 0, 1, 9, 5), "y": (4, 0, 4, 0), "z": (0, 2, 0, 2)})
        self.assertEqual(marks(part.variant(p=0)), {"x": (4, 0, 1), "y": (4, 0), "z": (0, 2)})
        part.switch("base", False)
        self.assertEqual(marks(result=part.result), {"x": (1,), "y": (), "z": ()})
        part.switch("half", False)
        self.assertEqual(marks(part.result), {"x": (), "y": (), "z": ()})
        marks(part.result).clear()
        self.assertEqual(len(marks(part.result)), 3)

    def test_random_parts(self):
        source = random.Random(200)
        kinds = Counter()
        for _ in range(25):
            part = random_part(source, False)
            for result in [part.result] + [part.variant(p=source.randrange(-1, 5), q=source.randrange(-1, 5)) for _ in range(4)]:
                self.assertEqual(marks(result), plain_marks(result))
                kinds.update(record.feature.kind for record in result.records if record.told == ("ok",))
        self.assertEqual(len(kinds), 6)
        self.assertGreater(min(kinds.values()), 10)


def random_part(source, well, many=6, **texts):
    """A part with random features, which are all well if this is wanted."""
    part = made(**{"p": "2", "q": "3", **texts})
    for name in "abcdefgh"[:many]:
        for _ in range(8):
            known = names(part.result.marked) or [LOST]
            sources = [feature.name for feature in part.features if feature.kind in ("add", "cut")] or ["a"]
            feature = random_feature(source, name, known if len(part) else [], sources)
            # The deeper the features refer to one another, the better.
            part.put(len(part), feature)
            if part.result.status(name) == ("ok",) or not well:
                break
            part.take(name)
    return part


class OrderTest(unittest.TestCase):
    def test_same_order(self):
        part = made(BASE, keep("half", "p"), keep("low", "q"), p="1", q="2")
        self.assertTrue(same_order(part.result, part.result))
        for p, q, same in [(1, 3, True), (2, 3, True), (-1, 2, False), (0, 2, False), (3, 4, False), (2, 2, False), (2, 1, False), (1, 2, True)]:
            self.assertIs(same_order(part.result, part.variant(p=p, q=q)), same, (p, q))
            self.assertIs(same_order(other=part.result, one=part.variant(p=p, q=q)), same, (p, q))
        for order in [(0, 0), (9, 9), (4, 4)]:
            self.assertTrue(same_order(part.variant(p=order[0], q=order[1]), part.variant(q=order[0], p=order[1])))
        # Equal coordinates must stay equal.
        one, other = part.variant(p=4, q=4), part.variant(p=5, q=5)
        self.assertEqual([same_order(one, other), same_order(other, part.variant(p=LIMIT, q=LIMIT))], [False, True])

    def test_other_numbers_of_marks(self):
        part = made(BASE, keep("half", "1"))
        self.assertFalse(same_order(part.result, made(BASE).result))
        self.assertFalse(same_order(part.result, made(BASE, Keep("half", "y", "1", 1)).result))
        self.assertTrue(same_order(part.result, made(BASE, Keep("other", "x", "3", -1)).result))
        self.assertTrue(same_order(made().result, made(Push("bad", LOST, "1")).result))

    def test_copies(self):
        one = made(BASE, Copy("row", "base", ("x", "10", "2"), ("y", "10", "3"))).result
        for copy, same in [(Copy("row", "base", ("x", "10", "2"), ("y", "10", "3")), True), (Copy("rows", "base", ("x", "10", "2"), ("y", "10", "3")), False),
                           (Copy("row", "base", ("x", "10", "3"), ("y", "10", "2")), False), (Copy("row", "base", ("x", "9", "2"), ("y", "5", "3")), True),
                           (Copy("row", "base", ("x", "4", "2"), ("y", "10", "3")), False), (Copy("row", "base", ("x", "10", "6")), False)]:
            self.assertIs(same_order(one, made(BASE, copy).result), same)
        # Copies without marks count, too; those that fail do not.
        none = made(BASE, Copy("row", "base", ("x", "10", "1"))).result
        self.assertFalse(same_order(none, made(BASE).result))
        self.assertFalse(same_order(none, made(BASE, Copy("row", "base", ("x", "10", "1"), ("y", "3", "1"))).result))
        self.assertTrue(same_order(made(BASE).result, made(BASE, Copy("row", "base", ("x", "10", "0"))).result))

    def test_random(self):
        """Also [112]: with the same order, the solids behind all features have the same names."""
        source = random.Random(201)
        told_of, compared = Counter(), 0
        for _ in range(26):
            part = random_part(source, True, 5)
            ranges = {name: [max(-30, min(30, end)) for end in stable(part, name)] for name in "pq"}
            for count in range(8):
                values = {"p": source.randrange(1, 7), "q": source.randrange(1, 8)}
                if count % 2:
                    values = {name: source.choice([ends[0], ends[1], source.randint(*ends)]) for name, ends in ranges.items()}
                other = part.variant(**values)
                same = same_order(part.result, other)
                self.assertEqual(same, plain_same_order(part.result, other))
                told_of[same] += 1
                if same and all(record.told == ("ok",) for record in other.records):
                    for record, other_record in zip(part.result.records, other.records):
                        self.assertEqual(names(record.behind), names(other_record.behind))
                        compared += record.behind != other_record.behind
        self.assertGreater(min(told_of.values()), 20, told_of)
        self.assertGreater(compared, 20)

    def test_steep(self):
        """[112] with great coordinates."""
        part = made(Add("base", sketch_of(e="a", n="b"), ("flat", "z", "0"), ("by", "c")), HOLE, Push("up", HOLED_TOP, "c"), Mirror("twin", "base", "z", "d"),
                    a="4", b="4", c="2", d="9")
        other = part.variant(a=LIMIT, b=10 ** 20, c=10 ** 25, d=10 ** 29)
        self.assertTrue(same_order(part.result, other))
        for record, other_record in zip(part.result.records, other.records):
            self.assertEqual([record.told, names(record.behind)], [("ok",), names(other_record.behind)])


class StableTest(unittest.TestCase):
    def check(self, part, name, low, high):
        """The range, and what breaks at its ends, held against variants."""
        self.assertEqual(stable(part, name), (low, high))
        found = breaks(part, name)
        self.assertEqual([type(stable(part, name)), type(found), len(found)], [tuple, tuple, 2])
        for inside, beyond, cause in [(low, low - 1, found[0]), (high, high + 1, found[1])]:
            self.assertIsNone(plain_break(part, part.variant(**{name: inside})))
            if abs(beyond) > LIMIT:
                self.assertIsNone(cause)
            else:
                self.assertEqual(cause, plain_break(part, part.variant(**{name: beyond})))
                self.assertIsNotNone(cause)
        return found

    def test_order(self):
        part = made(keep("low", "0"), keep("here", "d"), keep("high", "10"), d="2")
        self.assertEqual(self.check(part, "d", 1, 9), (("order", "x", 0, 1), ("order", "x", 1, 2)))
        self.assertEqual(stable(name="d", part=part), (1, 9))
        self.assertEqual(breaks(name="d", part=part), (("order", "x", 0, 1), ("order", "x", 1, 2)))
        part.define("d", "0")
        self.check(part, "d", 0, 0)

    def test_axes_and_indexes(self):
        part = made(Keep("a", "z", "d", 1), Keep("b", "y", "d", 1), Keep("c", "z", "5", 1), Keep("e", "y", "5", 1), Keep("f", "y", "d + 1", 1), d="2")
        self.assertEqual(self.check(part, "d", -LIMIT, 3), (None, ("order", "y", 1, 2)))
        part.define("d", "9")
        self.assertEqual(self.check(part, "d", 6, LIMIT - 1), (("order", "y", 0, 1), ("status", "f", ("failed", "value", "range"))))

    def test_linear_directly_and_through_others(self):
        part = made(keep("low", "0"), keep("here", "c - b"), keep("high", "100"), a="1", b="2 * a", c="b + (a + 3) * 10 - 4 * -a")
        # c - b = 14 * a + 30
        self.check(part, "a", -2, 4)
        self.check(part, "b", -LIMIT, LIMIT - 44)
        self.check(part, "c", 3, 101)

    def test_steep_and_constant(self):
        part = made(keep("low", "0"), keep("here", "a"), keep("high", "100"), k="1000000", t="0", a="k * t")
        part.define("t", "5 - 5")
        self.assertEqual(stable(part, "t"), (0, 0))
        part.define("k", "7")
        part.define("t", "1")
        self.check(part, "t", 1, 14)
        self.check(part, "k", 1, 99)
        part.define("a", "50 - 7 * t")
        self.check(part, "t", -7, 7)
        part.define("a", "0 * t + 3")
        self.check(part, "t", -LIMIT, LIMIT)
        self.assertEqual(breaks(part, "t"), (None, None))
        part.define("a", "t - t + 3")
        self.check(part, "t", -LIMIT, LIMIT)
        part.define("a", "3")
        self.check(part, "t", -LIMIT, LIMIT)
        self.check(part, "a", 1, 99)

    def test_ends_at_the_limit(self):
        part = made(keep("here", "a + 2"), a="1")
        self.assertEqual(self.check(part, "a", -LIMIT, LIMIT - 2), (None, ("status", "here", ("failed", "value", "range"))))
        part.define("a", str(LIMIT - 2))
        self.check(part, "a", -LIMIT, LIMIT - 2)
        part.replace(keep("here", "a"))
        for text in ["0", str(LIMIT), "-" + str(LIMIT)]:
            part.define("a", text)
            self.assertEqual(self.check(part, "a", -LIMIT, LIMIT), (None, None))
        part.replace(keep("here", "-3 * a"))
        part.define("a", "0")
        self.check(part, "a", -(LIMIT // 3), LIMIT // 3)
        # A value within a formula is what is too great.
        for text, low, high in [("2 * a - 2 * a", -(LIMIT // 2), LIMIT // 2), ("0 * (a + 5 * a)", -(LIMIT // 6), LIMIT // 6),
                                ("(a - 1) - a", 1 - LIMIT, LIMIT), ("(a + 10) - 5 - a", -LIMIT, LIMIT - 10)]:
            part.replace(keep("here", text))
            self.check(part, "a", low, high)

    def test_statuses(self):
        part = made(Add("base", sketch_of(e="w"), ("flat", "z", "0"), ("by", "h")), Copy("row", "base", ("x", "d", "n")), w="4", h="2", d="10", n="2")
        self.assertEqual(self.check(part, "h", 1, LIMIT), (("status", "base", ("failed", "distance", 0)), None))
        self.assertEqual(self.check(part, "w", 1, 9), (("status", "base", ("failed", "sketch", ("crossing", "e", "w"))), ("order", "x", 0, 3)))
        self.assertEqual(self.check(part, "n", 2, 2), (("count", "row"), ("count", "row")))
        self.assertEqual(self.check(part, "d", 5, LIMIT - 4), (("order", "x", 0, 3), ("status", "row", ("failed", "range", None))))
        part.define("d", "0")
        part.define("n", "16")
        self.assertEqual(breaks(part, "n"), (("count", "row"), ("status", "row", ("failed", "count", 17))))
        part.define("d", "10")
        part.define("n", "1")
        self.assertEqual(self.check(part, "n", 1, 1), (("status", "row", ("failed", "count", 0)), ("count", "row")))
        self.assertEqual(self.check(part, "d", -LIMIT, LIMIT), (None, None))

    def test_clash(self):
        """A dimension that is redundant only now."""
        part = made(Add("base", sketch_of(e="w"), ("flat", "z", "0"), ("by", "2")), w="4", v="4")
        sketch = part["base"].arguments[1]
        twice = type(sketch)(*sketch.outlines, dimensions=[*sketch.dimensions, ("e", "w", "v")])
        part.replace(Add("base", twice, ("flat", "z", "0"), ("by", "2")))
        for name in "wv":
            self.assertEqual([stable(part, name), {cause[:2] for cause in breaks(part, name)}], [(4, 4), {("status", "base")}])
        part.define("v", "w")
        self.check(part, "w", 1, LIMIT)

    def test_marks(self):
        """The number of the lines of a pushed face changes with its outline."""
        part = made(BASE, Cut("hole", sketch_of(s="1", e="p + 1", n="3", w="p"), ("flat", "z", "0"), ("all",)), Push("up", HOLED_TOP, "1"), p="1")
        self.assertEqual(part.result.status("up"), ("ok",))
        self.assertEqual(self.check(part, "p", 1, 2), (("marks", "x"), ("marks", "x")))
        part = made(BASE, Push("up", TOP, "p"), p="1")
        self.assertEqual(self.check(part, "p", 1, LIMIT - 2), (("marks", "x"), ("status", "up", ("failed", "range", None))))
        part.define("p", "0")
        self.assertEqual(self.check(part, "p", 0, 0), (("marks", "x"), ("marks", "x")))

    def test_a_plane_that_is_no_mark(self):
        part = made(BASE, Cut("hole", sketch_of(s="1", e="2", n="3", w="1"), ("on", TOP, "3 * p"), ("all",)), p="1")
        self.check(part, "p", -(LIMIT // 3), (LIMIT - 2) // 3)
        # The position of a side before it is moved is none either.
        part = made(Add("base", sketch_of(e="p", w="p - 4"), ("flat", "z", "0"), ("by", "2"), ("7 - p", "0")), p="1")
        self.check(part, "p", 7 - LIMIT, LIMIT)

    def test_lines(self):
        row = [Copy(name, "base", ("x", "p + " + str(k), "3")) for k, name in enumerate(["one", "two", "three", "four"])]
        part = made(BASE, *row, p="1000")
        part.take("four")
        low, high = stable(part, "p")
        self.check(part, "p", low, high)

    def test_random(self):
        source = random.Random(202)
        causes = Counter()
        for _ in range(22):
            part = random_part(source, True, source.randrange(3, 7), r=source.choice(["p + q", "2 * p - 1", "q - p", "5 - q"]))
            if source.random() < 0.5:
                part.put(len(part), keep("last", source.choice(["r", "2 * r - p", "-r"])))
            if source.random() < 0.5:
                face = source.choice([name for name in names(part.result.marked) if name[0] == "face"] or [LOST])
                part.put(len(part), Push("push", face, source.choice(["p", "q", "1 - p"])))
                if part.result.status("push") != ("ok",):
                    part.take("push")
            if source.random() < 0.2:
                part.switch(source.choice(part.features).name, False)
            if any(status[0] == "failed" for _, status, _ in part.solids()):
                continue
            for name in "pqr":
                present = part.result.results[name][1]
                ends = []
                for step in (-1, 1):
                    end = present
                    while abs(end - present) < 8 and plain_break(part, part.variant(**{name: end + step})) is None:
                        end += step
                    ends.append(end)
                low, high = stable(part, name)
                self.assertTrue(low == ends[0] or present - ends[0] == 8 and low < ends[0])
                self.assertTrue(high == ends[1] or ends[1] - present == 8 and high > ends[1])
                found = self.check(part, name, low, high)
                causes.update(cause and cause[0] for cause in found)
        self.assertEqual(set(causes), {"status", "count", "marks", "order", None}, causes)

    def test_names_within_the_range(self):
        """[112] at the ends of stable ranges."""
        source = random.Random(203)
        for _ in range(8):
            part = random_part(source, True, 5)
            for name in "pq":
                for number in stable(part, name):
                    result = part.variant(**{name: number})
                    self.assertTrue(same_order(part.result, result))
                    for record, other in zip(part.result.records, result.records):
                        self.assertEqual(names(record.behind), names(other.behind))

    def test_changes_nothing(self):
        part = made(keep("here", "a"), a="1")
        steps, result = part.steps, part.result
        stable(part, "a")
        breaks(part, "a")
        self.assertEqual([part.steps, part.result], [steps, result])


class ErrorTest(unittest.TestCase):
    def raises(self, part, name, error):
        for call in (stable, breaks):
            found = caught(call, part, name)
            self.assertEqual(found, error)
            self.assertIs(found[1], error[1])

    def test_unknown_names(self):
        part = made(keep("here", "a"), keep("bad", "1 // 0"), a="1 // 0", b="1")
        for value in any_values() + numbers() + strings()[:3] + ["z", "here", "A", "aa", ("a",)]:
            self.raises(part, value, ("UnknownName", value))

    def test_failed(self):
        part = made(keep("here", "a * a"), keep("bad", "1 // 0"), a="1 // 0", b="a + 1", c=f"{LIMIT} + 1", d="1")
        for name, word in [("a", "zero"), ("b", "zero"), ("c", "range")]:
            self.raises(part, name, ("Failed", word))
        self.raises(part, "d", ("NotDone", "here"))

    def test_not_linear(self):
        for text in ["a * a", "min(a, 100)", "a // 1", "max(1, a)", "b * a", "1 // a", "c", "0 * c", "d", "-(a * a)", "3 + 0 * (a * b)", "a - c", "7 // b"]:
            part = made(keep("first", "a"), keep("here", text), keep("bad", "a // 0"), a="1", b="a + 1", c="a // 2", d="0 * c", k="5", e="k // 2")
            self.raises(part, "a", ("NotLinear", "here"))
            self.assertEqual(caught(stable, part, "e")[0], "NotDone")
            part.switch("here", False)
            self.raises(part, "a", ("NotLinear", "bad"))
            part.switch("bad", False)
            self.assertIsNone(caught(stable, part, "a"))
        for text in ["a", "-a", "a + b - a", "3 * a", "a * k", "(k // 2) * a", "min(k, 3) * b + max(1, k)", "a * 0", "b - e", "k * k - a", "7"]:
            part = made(keep("here", text), a="1", b="a + 1", c="a // 2", k="5", e="k // 2")
            self.assertIsNone(caught(breaks, part, "a"), text)

    def test_not_linear_in_all_places(self):
        plane, bad = ("flat", "z", "0"), "a * a"
        for feature in [Add("f", sketch_of(e=bad), plane, ("by", "2")), Cut("f", sketch_of(n=bad), plane, ("all",)), Add("f", SQUARE, ("flat", "z", bad), ("by", "2")),
                        Add("f", SQUARE, plane, ("by", bad)), Add("f", SQUARE, plane, ("back", bad)), Add("f", SQUARE, plane, ("by", "2"), (bad, "0")),
                        Cut("f", SQUARE, plane, ("all",), ("0", bad)), Cut("f", SQUARE, ("on", TOP, bad), ("to", EAST)), Copy("f", "base", ("x", bad, "1")),
                        Copy("f", "base", ("x", "1", bad)), Copy("f", "base", ("x", "1", "1"), ("y", bad, "1")), Copy("f", "base", ("x", "1", "1"), ("y", "1", bad)),
                        Mirror("f", "base", "x", bad), Push("f", TOP, bad), Keep("f", "x", bad, 1)]:
            part = made(BASE, feature, Keep("g", "x", "a // 1", 1), a="1", k="1")
            self.raises(part, "a", ("NotLinear", "f"))
            self.assertNotEqual(caught(stable, part, "k"), ("NotLinear", "f"))

    def test_not_done(self):
        part = made(BASE, Push("bad", LOST, "1"), keep("half", "a"), Push("worse", LOST, "1"), a="1")
        self.raises(part, "a", ("NotDone", "bad"))
        part.switch("bad", False)
        self.raises(part, "a", ("NotDone", "worse"))
        part.switch("worse", False)
        self.assertEqual(stable(part, "a"), (1, 3))


if __name__ == "__main__":
    unittest.main()
