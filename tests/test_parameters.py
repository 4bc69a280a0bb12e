"""[12] and class Parameters."""

import random
import unittest

from solidnames.errors import Ring
from solidnames.formulas import Formula
from solidnames.parameters import Parameters
from tests.helpers import LIMIT, any_values, caught, numbers, strings


def word(number):
    return "p" + chr(97 + number // 26) + chr(97 + number % 26)


def chain(many):
    """The least name reads the next one and so on; the last one is 1."""
    return {word(k): word(k + 1) + " + 1" if k + 1 < many else "1" for k in range(many)}


class ConstructorTest(unittest.TestCase):
    def test_example_of_the_interface(self):
        p = Parameters(width="40", hole="width // 4", gap="(width - 2 * hole) // 0")
        self.assertEqual([p.results["hole"], p.results["gap"], p.reached("hole"), p.varied(width=-3).results["hole"]],
                         [('value', 10), ('failed', 'zero'), ('gap',), ('value', -1)])

    def test_values(self):
        p = Parameters(c="a + b", b="a * 2", a="3")
        self.assertEqual(p.names, ("a", "b", "c"))
        self.assertEqual(list(p.results.items()), [("a", ("value", 3)), ("b", ("value", 6)), ("c", ("value", 9))])
        self.assertEqual([len(p), len(Parameters()), Parameters().names, Parameters().results], [3, 0, (), {}])
        self.assertEqual([p["c"], p["c"].text], [Formula("a + b"), "a + b"])
        self.assertEqual(Parameters.MOST, 40)
        self.assertEqual(p.MOST, 40)

    def test_names_that_look_like_arguments(self):
        p = Parameters(formulas="1", name="2", text="3", values="4", results="5")
        self.assertEqual(p.varied(values=7, name=8).results["values"], ("value", 7))
        with self.assertRaises(TypeError):
            Parameters(**{"self": "1"})

    def test_results_are_new(self):
        p = Parameters(a="1", b="a")
        p.results["a"] = ("value", 9)
        p.results.clear()
        self.assertEqual(p.results, {"a": ("value", 1), "b": ("value", 1)})

    def test_invalid_names(self):
        for name in ["", "A", "a1", "abcdefghi", "min", "max", "a b", " ", "aB", "_", "a\n"]:
            self.assertEqual(caught(Parameters, **{name: "1"}), ("InvalidName", name))
        self.assertEqual(Parameters(abcdefgh="1", minx="2", selfs="3").names, ("abcdefgh", "minx", "selfs"))

    def test_invalid_texts(self):
        for value in any_values() + numbers():
            self.assertEqual(caught(Parameters, a=value), ("ParseError", 0))
        self.assertEqual(caught(Parameters, a="1 /"), ("ParseError", 3))
        self.assertEqual(caught(Parameters, a="1" * 101), ("ParseError", 100))

    def test_order_of_the_call(self):
        self.assertEqual(caught(Parameters, **{"A": "1 +", "b": "+"}), ("InvalidName", "A"))
        self.assertEqual(caught(Parameters, **{"b": "1 +", "A": "1"}), ("ParseError", 3))
        self.assertEqual(caught(Parameters, b="1 +", a="+"), ("ParseError", 3))
        self.assertEqual(caught(Parameters, a="+", b="1 +"), ("ParseError", 0))
        self.assertEqual(caught(Parameters, b="y", a="x"), ("UnknownName", "y"))
        self.assertEqual(caught(Parameters, a="z + y", b="x"), ("UnknownName", "z"))
        self.assertEqual(caught(Parameters, a="a", b="x"), ("UnknownName", "x"))
        self.assertEqual(caught(Parameters, a="q", **{"min": "1"}), ("InvalidName", "min"))

    def test_too_many(self):
        self.assertEqual(len(Parameters(**{word(k): "1" for k in range(40)})), 40)
        self.assertEqual(caught(Parameters, **{word(k): "q" for k in range(41)}), ("TooMany", 40))
        self.assertEqual(caught(Parameters, **{word(k): word(k) for k in range(41)}), ("TooMany", 40))
        texts = {word(k): "1" for k in range(41)}
        self.assertEqual(caught(Parameters, **{**texts, word(40): "+"}), ("ParseError", 0))
        self.assertEqual(caught(Parameters, **texts, A="1"), ("InvalidName", "A"))

    def test_a_chain_of_forty(self):
        texts = chain(40)
        for order in (list(texts), list(texts)[::-1]):
            p = Parameters(**{name: texts[name] for name in order})
            self.assertEqual(p.results[word(0)], ("value", 40))
            self.assertEqual(p.reached(word(39)), tuple(word(k) for k in range(39)))
            self.assertEqual(p.reached(word(0)), ())
            self.assertEqual(caught(p.defined, word(39), word(0)), ("Ring", tuple(word(k) for k in range(40))))
            self.assertEqual(p.varied(**{word(39): 100}).results[word(0)], ("value", 139))
        self.assertEqual(caught(Parameters, **chain(41)), ("TooMany", 40))

    def test_failures_are_read(self):
        p = Parameters(a="1 // 0", b="a + 1", c="min(1, b)", d="max(" + "9" * 31 + ", a)", e="2")
        self.assertEqual(p.results, {"a": ("failed", "zero"), "b": ("failed", "zero"), "c": ("failed", "zero"),
                                     "d": ("failed", "range"), "e": ("value", 2)})


class RingTest(unittest.TestCase):
    def check(self, **texts):
        with self.assertRaises(Ring) as found:
            Parameters(**texts)
        names = found.exception.names
        self.assertIsInstance(names, tuple)
        self.assertEqual(len(set(names)), len(names))
        self.assertEqual(names[0], min(names))
        for one, other in zip(names, names[1:] + names[:1]):
            self.assertIn(other, Formula(texts[one]).names)
        return names

    def test_rings(self):
        self.assertEqual(self.check(a="a"), ("a",))
        self.assertEqual(self.check(a="1", b="a + b"), ("b",))
        self.assertEqual(self.check(b="a", a="b"), ("a", "b"))
        self.assertEqual(self.check(c="a", a="b", b="c"), ("a", "b", "c"))
        self.assertEqual(self.check(c="b", a="c", b="a"), ("a", "c", "b"))
        self.assertEqual(self.check(a="b", b="c", c="b", d="a"), ("b", "c"))
        self.check(a="b + c", b="a", c="a")
        self.assertEqual(len(self.check(**{**chain(40), word(39): word(0)})), 40)

    def test_any_graphs(self):
        source = random.Random(3)
        names = "abcdefg"
        rings = 0
        for _ in range(400):
            texts = {name: " + ".join(["1"] + source.sample(names, source.choice([0, 0, 1, 2]))) for name in names}
            left = dict(texts)
            while any(not set(Formula(left[name]).names) & set(left) for name in left):
                left = {name: left[name] for name in left if set(Formula(left[name]).names) & set(left)}
            if left:
                rings += 1
                self.assertLessEqual(set(self.check(**texts)), set(left))
            else:
                Parameters(**texts)
        self.assertGreater(rings, 50)
        self.assertLess(rings, 350)


class AccessTest(unittest.TestCase):
    def setUp(self):
        self.p = Parameters(a="1", b="a", c="b + a", d="2")

    def test_in_and_index(self):
        self.assertTrue("a" in self.p)
        for value in any_values() + numbers() + ["e", "", "A", "ab", "1"]:
            self.assertFalse(value in self.p)
            error = caught(lambda: self.p[value])
            self.assertEqual((error[0], len(error), error[1] is value), ("UnknownName", 2, True))

    def test_equality(self):
        self.assertEqual(self.p, Parameters(d="2", c="b + a", b="a", a="1"))
        self.assertNotEqual(self.p, Parameters(d="2", c="b+a", b="a", a="1"))
        self.assertNotEqual(self.p, Parameters(a="1", b="a", c="b + a"))
        self.assertEqual(Parameters(), Parameters())
        for value in any_values() + ["a"]:
            self.assertFalse(Parameters() == value)
            self.assertTrue(Parameters() != value)

    def test_no_iteration_over_names(self):
        self.assertRaises(TypeError, list, self.p)

    def test_defined(self):
        old = Parameters(a="1", b="a", c="b + a", d="2")
        self.assertEqual(self.p.defined("e", "c + d").results["e"], ("value", 4))
        self.assertEqual(self.p.defined("a", "5").results["c"], ("value", 10))
        self.assertEqual(self.p.defined(text="d", name="a"), Parameters(a="d", b="a", c="b + a", d="2"))
        self.assertEqual(self.p, old)
        self.assertEqual(self.p.results, old.results)

    def test_errors_of_defined(self):
        for name in any_values() + numbers() + ["", "A", "min", "max", "self", "abcdefghi", "a1"]:
            error = caught(self.p.defined, name, "+")
            self.assertEqual((error[0], error[1] is name), ("InvalidName", True))
        for text in any_values() + numbers():
            self.assertEqual(caught(self.p.defined, "a", text), ("ParseError", 0))
        self.assertEqual(caught(self.p.defined, "a", "q +"), ("ParseError", 3))
        self.assertEqual(caught(self.p.defined, "a", "q + x"), ("UnknownName", "q"))
        self.assertEqual(caught(self.p.defined, "a", "c + x"), ("UnknownName", "x"))
        self.assertEqual(caught(self.p.defined, "e", "e"), ("Ring", ("e",)))
        self.assertEqual(caught(self.p.defined, "a", "a"), ("Ring", ("a",)))
        self.assertEqual(caught(self.p.defined, "a", "b"), ("Ring", ("a", "b")))
        full = Parameters(**{word(k): "1" for k in range(40)})
        self.assertEqual(caught(full.defined, "e", "q"), ("TooMany", 40))
        self.assertEqual(caught(full.defined, "e", "1 +"), ("ParseError", 3))
        self.assertEqual(caught(full.defined, "E", "1 +"), ("InvalidName", "E"))
        self.assertEqual(full.defined(word(3), "7").results[word(3)], ("value", 7))

    def test_without(self):
        self.assertEqual(self.p.without("d"), Parameters(a="1", b="a", c="b + a"))
        self.assertEqual(self.p.without(name="c"), Parameters(a="1", b="a", d="2"))
        self.assertEqual(len(self.p), 4)
        self.assertEqual(caught(self.p.without, "a"), ("InUse", "b"))
        self.assertEqual(caught(self.p.without, "b"), ("InUse", "c"))
        self.assertEqual(caught(Parameters(z="1", y="z", x="z").without, "z"), ("InUse", "x"))

    def test_reached(self):
        self.assertEqual([self.p.reached(name) for name in "abcd"], [("b", "c"), ("c",), (), ()])
        self.assertEqual(Parameters(m="1", a="m", z="a", k="z").reached("m"), ("a", "k", "z"))

    def test_unknown_names(self):
        for value in any_values() + numbers() + ["e", "", "A"]:
            for method in (self.p.without, self.p.reached):
                error = caught(method, value)
                self.assertEqual((error[0], error[1] is value), ("UnknownName", True))

    def test_varied(self):
        varied = self.p.varied(a=-LIMIT, d=0)
        self.assertEqual([varied["a"].text, varied["d"].text], ["-" + str(LIMIT), "0"])
        self.assertEqual(varied.results["c"], ("failed", "range"))
        self.assertEqual(self.p.varied(b=LIMIT).results["b"], ("value", LIMIT))
        self.assertEqual(self.p.varied(), self.p)
        self.assertEqual(self.p["a"].text, "1")

    def test_errors_of_varied(self):
        self.assertEqual(caught(self.p.varied, z=1, x=None, a="1"), ("UnknownName", "x"))
        self.assertEqual(caught(self.p.varied, a=None, x=1), ("UnknownName", "x"))
        self.assertEqual(caught(self.p.varied, **{"b": 1, "A b": 1}), ("UnknownName", "A b"))
        self.assertEqual(caught(self.p.varied, d="d", a=None), ("InvalidNumber", None))
        self.assertEqual(caught(self.p.varied, b=2, a=1, d="d"), ("InvalidNumber", "d"))
        for value in any_values() + strings() + [LIMIT + 1, -LIMIT - 1, 10 ** 999]:
            error = caught(self.p.varied, a=value)
            self.assertEqual((error[0], error[1] is value), ("InvalidNumber", True))


if __name__ == "__main__":
    unittest.main()
