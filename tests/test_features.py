"""[71] to [75]: features as objects."""

import unittest

from solidnames.features import Add, Copy, Cut, Feature, Keep, Mirror, Push
from solidnames.sketches import Sketch
from tests.helpers import any_values, caught, numbers, strings

FACE = ("face", "a/+x", ("a/+y", "a/-y"), 0, 1)
OTHER = ("face", "a/+y", ("a/+x",), 1, 3)
EDGE = ("edge", FACE, OTHER, 0, 2)
CORNER = ("corner", (FACE, OTHER), 1, 2)
SQUARE = Sketch(["s", "e", "n", "w"], dimensions=[
    ("s", None, "0"), ("e", "w", "wide"), ("n", "s", "min(deep, wide)"), ("w", None, "0")])
FLAT, ON = ("flat", "z", "low - 1"), ("on", FACE, "up")
BY, BACK, TO, ALL = ("by", "tall"), ("back", "2 * tall"), ("to", OTHER), ("all",)


def made():
    """Features of all kinds."""
    return [Add("a", SQUARE, FLAT, BY), Cut("a", SQUARE, FLAT, BY), Add("a", SQUARE, ON, BACK, ("p", "q")), Cut("a", SQUARE, ON, ALL),
            Add("a", SQUARE, ON, TO), Cut("a", SQUARE, FLAT, TO, ("0", "0")), Copy("a", "b", ("x", "d", "n")),
            Copy("a", "b", ("x", "d", "n"), ("x", "e", "m")), Mirror("a", "b", "y", "m"), Push("a", EDGE, "p"), Push("a", CORNER, "p"),
            Keep("a", "x", "k", 1), Keep("a", "x", "k", -1)]


def bad_formulas():
    return any_values() + numbers() + ["", " ", "a +", "1 1", "01", "A", "1" * 32, "a" * 9, "1" * 101, "a / b", "min(a)", "self"]


class ObjectTest(unittest.TestCase):
    def test_values(self):
        kinds = ["add", "cut", "add", "cut", "add", "cut", "copy", "copy", "mirror", "push", "push", "keep", "keep"]
        for feature, kind in zip(made(), kinds):
            self.assertIsInstance(feature, Feature)
            self.assertEqual([feature.name, feature.kind, type(feature).__name__.lower()], ["a", kind, kind])

    def test_reads(self):
        self.assertEqual([feature.reads for feature in made()], [
            ("deep", "low", "tall", "wide"), ("deep", "low", "tall", "wide"), ("deep", "p", "q", "tall", "up", "wide"),
            ("deep", "up", "wide"), ("deep", "up", "wide"), ("deep", "low", "wide"), ("d", "n"), ("d", "e", "m", "n"), ("m",),
            ("p",), ("p",), ("k",), ("k",)])
        self.assertEqual(Keep("a", "x", "1", 1).reads, ())
        self.assertEqual(Copy("a", "b", ("x", "c + b", "c"), ("y", "a", "b // a")).reads, ("a", "b", "c"))

    def test_picks_and_source(self):
        self.assertEqual([feature.picks for feature in made()], [
            (), (), (FACE,), (FACE,), (FACE, OTHER), (OTHER,), (), (), (), (EDGE,), (CORNER,), (), ()])
        self.assertEqual([feature.source for feature in made()], [None] * 6 + ["b"] * 3 + [None] * 4)
        self.assertEqual(Add("a", SQUARE, ON, ("to", FACE)).picks, (FACE, FACE))

    def test_names(self):
        for name in ["a", "min", "max", "self", "abcdefgh"]:
            self.assertEqual([Keep(name, "x", "1", 1).name, Copy("a", name, ("x", "1", "1")).source], [name, name])

    def test_arguments_by_name(self):
        self.assertEqual(Add(shift=("0", "1"), extent=BY, plane=FLAT, sketch=SQUARE, name="a"), Add("a", SQUARE, FLAT, BY, ("0", "1")))
        self.assertEqual(Cut(extent=ALL, plane=FLAT, sketch=SQUARE, name="a"), Cut("a", SQUARE, FLAT, ALL, ("0", "0")))
        self.assertEqual(Mirror(formula="1", axis="x", source="b", name="a"), Mirror("a", "b", "x", "1"))
        self.assertEqual(Push(formula="1", pick=FACE, name="a"), Push("a", FACE, "1"))
        self.assertEqual(Keep(side=1, formula="1", axis="x", name="a"), Keep("a", "x", "1", 1))

    def test_renamed(self):
        for feature in made():
            other = feature.renamed("other")
            self.assertEqual([other.name, feature.name, type(other)], ["other", "a", type(feature)])
            self.assertNotEqual(other, feature)
            self.assertEqual(other.renamed(name="a"), feature)
            self.assertEqual([other.reads, other.picks, other.source], [feature.reads, feature.picks, feature.source])
            for value in any_values() + numbers() + ["", "A", "abcdefghi", "a b", "a1"]:
                self.assertEqual(caught(feature.renamed, value), ("InvalidFeature", "name"))

    def test_equality(self):
        features = made()
        for place, feature in enumerate(features):
            self.assertEqual([other == feature for other in made()].index(True), place)
            self.assertEqual([other == feature for other in features].count(True), 1)
            for value in any_values() + strings() + numbers() + [feature.name]:
                self.assertFalse(feature == value)
        # The same formula, but another text; the same sketch, made again.
        self.assertNotEqual(Keep("a", "x", "k", 1), Keep("a", "x", " k", 1))
        again = Sketch(["s", "e", "n", "w"], dimensions=SQUARE.dimensions)
        self.assertEqual(Add("a", again, FLAT, BY), Add("a", SQUARE, FLAT, BY))
        self.assertNotEqual(Add("a", Sketch(["s", "e", "n", "w"]), FLAT, BY), Add("a", SQUARE, FLAT, BY))
        self.assertNotEqual(Mirror("a", "b", "x", "1"), Mirror("a", "c", "x", "1"))
        self.assertNotEqual(Copy("a", "b", ("x", "1", "2")), Copy("a", "b", ("x", "1", "3")))


    def test_equality_in_the_base_class(self):
        one = Feature("keep", ("a", "x", "1", 1), ["1"])
        self.assertEqual(one, Feature("keep", ("a", "x", "1", 1), ["1"]))
        for other in (Feature("push", ("a", "x", "1", 1), ["1"]), Feature("keep", ("b", "x", "1", 1), ["1"]), "keep", None):
            self.assertFalse(one == other)


class WrongTest(unittest.TestCase):
    """InvalidFeature(part) for the first argument that is not as told."""

    def check(self, part, values, call):
        for value in values:
            self.assertEqual(caught(call, value), ("InvalidFeature", part), repr(value))

    def test_name(self):
        bad = any_values() + numbers() + ["", "A", "abcdefghi", "a b", "a1", " a", "a\n"]
        for call in (lambda v: Add(v, None, None, None, None), lambda v: Cut(v, None, None, None, None), lambda v: Copy(v, None),
                     lambda v: Mirror(v, None, None, None), lambda v: Push(v, None, None), lambda v: Keep(v, None, None, None)):
            self.check("name", bad, call)
        self.check("source", bad, lambda v: Copy("a", v))
        self.check("source", bad, lambda v: Mirror("a", v, None, None))

    def test_sketch(self):
        bad = [value for value in any_values() if not isinstance(value, Sketch)] + strings() + numbers() + [["s", "e", "n", "w"]]
        for kind in (Add, Cut):
            self.check("sketch", bad, lambda v: kind("a", v, None, None, None))

    def test_plane(self):
        bad = any_values() + strings() + numbers() + [
            ("flat",), ("flat", "z"), ("flat", "z", "1", "2"), ["flat", "z", "1"], ("Flat", "z", "1"), ("on", "z", "1"), ("flat", FACE, "1"),
            ("flat", "+z", "1"), ("flat", "", "1"), ("flat", None, "1"), ("on", list(FACE), "1"), ("on", FACE[:4], "1"), ("on", FACE),
            (None, "z", "1"), (True, "z", "1"), ("all",), ("by", "1")]
        for kind in (Add, Cut):
            self.check("plane", bad, lambda v: kind("a", SQUARE, v, None, None))
            self.check("plane", bad_formulas(), lambda v: kind("a", SQUARE, ("flat", "x", v), None, None))
            self.check("plane", bad_formulas(), lambda v: kind("a", SQUARE, ("on", FACE, v), None, None))
            for pick in (FACE, EDGE, CORNER):
                self.assertEqual(kind("a", SQUARE, ("on", pick, "1"), BY).picks, (pick,))
            for axis in "xyz":
                self.assertEqual(kind("a", SQUARE, ("flat", axis, "1"), BY).picks, ())

    def test_extent(self):
        bad = any_values() + strings() + numbers() + [
            ("by",), ("by", "1", "1"), ["by", "1"], ("By", "1"), ("to", "1"), ("to",), ("to", list(FACE)), ("back",), ("to", FACE, "1"),
            ("all", "1"), ["all"], "all", ("All",), ("by", FACE), ("back", None)]
        for kind in (Add, Cut):
            self.check("extent", bad, lambda v: kind("a", SQUARE, FLAT, v, None))
            for word in ("by", "back"):
                self.check("extent", bad_formulas(), lambda v: kind("a", SQUARE, FLAT, (word, v), None))
            for pick in (FACE, EDGE, CORNER):
                self.assertEqual(kind("a", SQUARE, FLAT, ("to", pick)).picks, (pick,))
        self.check("extent", [("all",)], lambda v: Add("a", SQUARE, FLAT, v, None))
        self.assertEqual(Cut("a", SQUARE, FLAT, ("all",)).picks, ())

    def test_shift(self):
        bad = any_values() + strings() + numbers() + [("1",), ("1", "1", "1"), ["1", "1"], "11", ("1", 1), (1, "1"), ()]
        for kind, extent in ((Add, BY), (Cut, BY), (Cut, ALL)):
            self.check("shift", bad, lambda v: kind("a", SQUARE, FLAT, extent, v))
            self.check("shift", bad_formulas(), lambda v: kind("a", SQUARE, FLAT, extent, ("0", v)))
            self.check("shift", bad_formulas(), lambda v: kind("a", SQUARE, FLAT, extent, (v, "0")))

    def test_steps(self):
        good = ("x", "1", "2")
        self.assertEqual(caught(Copy, "a", "b"), ("InvalidFeature", "steps"))
        self.assertEqual(caught(Copy, "a", "b", good, good, good), ("InvalidFeature", "steps"))
        bad = any_values() + strings() + numbers() + [("x", "1"), ("x", "1", "2", "3"), ["x", "1", "2"], ("X", "1", "2"), ("", "1", "2"),
                                                     (None, "1", "2"), (good, good), (["x"], "1", "2")]
        self.check("steps", bad, lambda v: Copy("a", "b", v))
        self.check("steps", bad, lambda v: Copy("a", "b", good, v))
        self.check("steps", bad_formulas(), lambda v: Copy("a", "b", ("x", v, "1")))
        self.check("steps", bad_formulas(), lambda v: Copy("a", "b", good, ("y", "1", v)))

    def test_axis_formula_pick_and_side(self):
        axes = any_values() + strings()[:-3] + numbers() + ["X", "+x", "xy"]
        axes = [value for value in axes if value not in ("x", "y", "z")]
        self.check("axis", axes, lambda v: Mirror("a", "b", v, None))
        self.check("axis", axes, lambda v: Keep("a", v, None, None))
        self.check("formula", bad_formulas(), lambda v: Mirror("a", "b", "x", v))
        self.check("formula", bad_formulas(), lambda v: Keep("a", "z", v, None))
        self.check("formula", bad_formulas(), lambda v: Push("a", FACE, v))
        self.check("pick", any_values() + strings() + numbers() + [list(FACE), FACE[:4], ("edge", FACE, FACE, 0, 1)],
                   lambda v: Push("a", v, None))
        self.check("side", any_values() + strings() + [0, 2, -2, 10 ** 30, "1", "+x"], lambda v: Keep("a", "x", "1", v))


if __name__ == "__main__":
    unittest.main()
