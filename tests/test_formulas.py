"""[10], [11], [13] and class Formula."""

import random
import unittest

from solidnames.errors import Failed, NotLinear, ParseError, UnknownName
from solidnames.formulas import Formula
from tests.helpers import LIMIT, any_values, caught, numbers

LETTERS = "abcdefghijklmnopqrstuvwxyz"


def index_of(text):
    error = caught(Formula, text)
    return error if error is None else error[1]


# An independent reading of [10]: all stacks of symbols that can stand behind a text.
RULES = {
    "FORMULA": ["S,SUM"], "S": ["", " S"],
    "SUM": ["TERM,SUMS"], "SUMS": ["", "+S,TERM,SUMS", "-S,TERM,SUMS"],
    "TERM": ["FACTOR,TERMS"], "TERMS": ["", "*S,FACTOR,TERMS", "/SLASH,S,FACTOR,TERMS"], "SLASH": ["/"],
    "FACTOR": ["-S,FACTOR", "(S,SUM,CLOSE,S", "mI,N,PAIR", "mA,X,PAIR"],
    "I": ["i"], "N": ["n"], "A": ["a"], "X": ["x"], "CLOSE": [")"], "OPEN": ["("], "COMMA": [","],
    "PAIR": ["S,OPEN,S,SUM,COMMA,S,SUM,CLOSE,S"],
}


def expansions(symbol):
    """All (first character or None, rest) of a symbol."""
    if symbol[0] == "<":
        read = symbol[1:]
        ends = [(None, ("S",))] if read not in ("", "min", "max", "self") else []
        return ends + ([(letter, ("<" + read + letter,)) for letter in LETTERS] if len(read) < 8 else [])
    if symbol[0] == "#":
        read = symbol[1:]
        ends = [(None, ("S",))] if read else []
        return ends + ([(digit, ("#" + read + digit,)) for digit in "0123456789"]
                       if len(read) < 31 and read != "0" else [])
    found = [(None, ("<",)), (None, ("#",))] if symbol == "FACTOR" else []
    for rule in RULES[symbol]:
        head = rule[:1] if rule and (rule[0] in "+-*/(), " or rule[0].islower()) else None
        rest = rule[1:] if head else rule
        found.append((head, tuple(part for part in rest.split(",") if part and part != ",") or ()))
    if symbol == "COMMA":
        found = [(",", ())]
    return found


def closure(stacks):
    """Of stacks, those that begin with a character that can be read, and whether one is empty."""
    ready, seen, todo = [], set(), list(stacks)
    ended = False
    while todo:
        stack = todo.pop()
        if stack in seen:
            continue
        seen.add(stack)
        if not stack:
            ended = True
            continue
        for head, rest in expansions(stack[0]):
            if head is None:
                todo.append(rest + stack[1:])
            else:
                ready.append((head, rest + stack[1:]))
    return ready, ended


def index_by_stacks(text):
    ready, ended = closure([("FORMULA",)])
    for index, character in enumerate(text):
        following = [stack for head, stack in ready if head == character]
        if not following:
            return index
        ready, ended = closure(following)
    return None if ended else len(text)


class ReadingTest(unittest.TestCase):
    def test_formulas(self):
        for text in ["0", " 7 ", "a", "abcdefgh", "- a", "--a", "(a)", "((  (a) ) )", "min(a,b)", "max ( a , b )", "minx",
                     "maxi", "selfa", "selfish", "min(min(1,2),max(3,4))", "a+b", "a - b*c // d", "a*-b", "a--b",
                     "-(a)", "-min(1,-2)", "1" * 31, "9" * 31, "(" * 49 + "1" + ")" * 49, "-" * 99 + "1", " " * 99 + "a",
                     "a" + " " * 99, "+".join(["1"] * 50) + " ", "mi", "ma", "m", "sel"]:
            self.assertEqual(Formula(text).text, text)

    def test_example_of_the_interface(self):
        self.assertEqual(caught(Formula, "a / b"), ("ParseError", 3))

    def test_fields_by_name(self):
        self.assertEqual(Formula(text="a").text, "a")
        self.assertEqual(Formula("a").evaluate(results={"a": ("value", 1)}), ("value", 1))
        self.assertEqual(Formula("a").linear(name="a", results={}), (1, 0))

    def test_indexes(self):
        for text, index in [
                ("", 0), ("   ", 3), ("a+", 2), ("a +  ", 5), ("+a", 0), ("a b", 2), ("1 2", 2), ("12a", 2), ("a1", 1),
                ("00", 1), ("01", 1), ("0a", 1), ("1" * 32, 31), ("a" * 9, 8), ("ab" * 4 + "c", 8), ("A", 0), ("aB", 1),
                ("a\n", 1), ("\na", 0), ("a\t", 1), ("min", 3), ("max", 3), ("self", 4), ("self ", 4), ("self+1", 4),
                ("self(", 4), ("min ", 4), ("min+1", 3), ("min +", 4), ("mi n(1,2)", 3), ("min(1)", 5), ("min(1,2,3)", 7),
                ("min(1,2", 7), ("min(,", 4), ("min()", 4), ("minx(", 4), ("a(", 1), ("(1,2)", 2), ("1,", 1), ("1)", 1),
                ("(1", 2), ("()", 1), ("(1))", 3), ("/", 0), ("a/", 2), ("a/b", 2), ("a/ /b", 2), ("a///b", 3),
                ("a//", 3), ("a**b", 2), ("a-", 2), ("-", 1), ("- +a", 2), ("a=b", 1), ("2.5", 1), ("a_b", 1),
                ("(a,", 2), ("min((1,2),3)", 6), ("max(1,2))", 8), ("min(1,max(2,3)", 14), ("1-self*2", 6)]:
            self.assertEqual(index_of(text), index, text)

    def test_lengths(self):
        self.assertIsNone(index_of("a" + "+a" * 49 + " "))
        self.assertEqual(index_of("a" * 100), 8)
        self.assertEqual(index_of("a" + "+a" * 50), 100)
        self.assertEqual(index_of("(" * 100), 100)
        self.assertEqual(index_of("-" * 100), 100)
        self.assertEqual(index_of("min(" * 25), 100)
        self.assertEqual(index_of("?" * 101), 100)
        self.assertEqual(index_of("?" * 100), 0)
        self.assertEqual(index_of(" " * 100), 100)
        self.assertEqual(index_of("1 " * 2500), 100)
        self.assertEqual(index_of("(" * 5000), 100)

    def test_values_that_are_no_strings(self):
        for value in any_values() + numbers():
            self.assertEqual(caught(Formula, value), ("ParseError", 0), repr(value))

    def test_against_stacks(self):
        source = random.Random(1)
        parts = ["a", "ab", "1", "0", "12", "min", "max", "self", "(", ")", ",", "+", "-", "*", "//", "/", " ", "A", "min(",
                 "max(", "mi", "n", "abcdefgh", "1" * 31, "a,", "b)", "-1"]
        correct = 0
        for _ in range(3000):
            text = "".join(source.choice(parts) for _ in range(source.randrange(1, 9)))
            expected = index_by_stacks(text) if len(text) <= 100 else 100
            correct += expected is None
            self.assertEqual(index_of(text), expected, text)
        self.assertGreater(correct, 100)

    def test_each_prefix_and_each_change_of_a_formula(self):
        text = " min ( -a // 12,(b+max(0 , c)) ) * - selfs"
        self.assertIsNone(index_of(text))
        for end in range(len(text) + 1):
            self.assertEqual(index_of(text[:end]), index_by_stacks(text[:end]), text[:end])
            for character in "a0(),+-*/ ?":
                changed = text[:end] + character + text[end + 1:]
                self.assertEqual(index_of(changed), index_by_stacks(changed), changed)

    def test_names(self):
        self.assertEqual(Formula("c + a * min(b, c) - maxi").names, ("a", "b", "c", "maxi"))
        self.assertEqual(Formula("1").names, ())

    def test_equality(self):
        self.assertEqual(Formula("a + b"), Formula("a + b"))
        self.assertNotEqual(Formula("a + b"), Formula("a+b"))
        for value in any_values()[:12] + ["a", 1]:
            self.assertFalse(Formula("a") == value)
            self.assertTrue(Formula("a") != value)


def value_of(number):
    return ("value", number)


ZERO, RANGE = ("failed", "zero"), ("failed", "range")


class EvaluateTest(unittest.TestCase):
    def check(self, text, expected, **numbers_of):
        results = {name: value_of(worth) if isinstance(worth, int) else worth for name, worth in numbers_of.items()}
        self.assertEqual(Formula(text).evaluate(results), expected, text)

    def test_example_of_the_interface(self):
        results = {"a": ("value", 7), "b": ("value", -2), "c": ("failed", "zero")}
        self.assertEqual([Formula(text).evaluate(results) for text in ["a // b", "-a // 2", "min(a, c) // 0"]],
                         [('value', -4), ('value', -4), ('failed', 'zero')])

    def test_small_numbers(self):
        for a in range(-4, 5):
            for b in range(-4, 5):
                self.check("a + b", value_of(a + b), a=a, b=b)
                self.check("a - b", value_of(a - b), a=a, b=b)
                self.check("a * b", value_of(a * b), a=a, b=b)
                self.check("a // b", value_of(a // b) if b else ZERO, a=a, b=b)
                self.check("min(a, b)", value_of(min(a, b)), a=a, b=b)
                self.check("max(a, b)", value_of(max(a, b)), a=a, b=b)
                self.check("-a * -b", value_of(a * b), a=a, b=b)

    def test_order_of_operations(self):
        for text, number in [
                ("10 - 3 - 2", 5), ("100 // 7 // 2", 7), ("100 // 7 * 2", 28), ("2 * 7 // 3", 4), ("2 + 3 * 4", 14),
                ("(2 + 3) * 4", 20), ("-7 // 2", -4), ("-(7 // 2)", -3), ("2 - -3", 5), ("- - 3", 3), ("2 * -3 + 1", -5),
                ("10 - 2 * 3 - 1", 3), ("-2 * -3", 6), ("max(1, 2) - min(3 - 5, 4) * 2", 6), ("-max(1, 2) // 3", -1),
                ("10 - (3 - 2)", 9), ("3 * 5 // 2", 7), ("-3 * 5 // 2", -8), ("-3 // 2 * 5", -10), ("-" * 99 + "5", -5), ("(" * 49 + "3" + ")" * 49, 3), ("7 // -2", -4)]:
            self.assertEqual(Formula(text).evaluate({}), value_of(number), text)

    def test_limits(self):
        bound, beyond = str(LIMIT), str(LIMIT + 1)
        for text, expected in [
                (bound, value_of(LIMIT)), ("-" + bound, value_of(-LIMIT)), (beyond, RANGE), ("-" + beyond, RANGE),
                ("9" * 31, RANGE), (bound + " + 0", value_of(LIMIT)), (bound + " + 1", RANGE), (bound + " - 1 + 1", value_of(LIMIT)),
                ("-" + bound + " - 1", RANGE), ("-1 - " + bound, RANGE), (bound + " * -1", value_of(-LIMIT)),
                (bound + " * 2", RANGE), (bound + " * -2", RANGE), (bound + " * 0", value_of(0)), (beyond + " * 0", RANGE),
                (bound + " + 1 - 1", RANGE), (bound + " // -1", value_of(-LIMIT)), (bound + " // 1", value_of(LIMIT)),
                ("min(" + bound + ", 1)", value_of(1)), ("min(" + beyond + ", 1)", RANGE), ("max(1, " + beyond + ")", RANGE)]:
            self.assertEqual(Formula(text).evaluate({}), expected, text)

    def test_failed_operands(self):
        for sign in ("z {} r", "min(z, {0}r)", "max(z, {0}r)"):
            for mark in ("+", "-", "*", "//") if "{}" in sign else ("", ):
                text = sign.format(mark)
                self.check(text, ZERO, z=ZERO, r=RANGE)
                self.check(text, RANGE, z=RANGE, r=ZERO)
                self.check(text, ZERO, z=0, r=ZERO)
                self.check(text, RANGE, z=RANGE, r=0)
                self.check(text, RANGE, z=1, r=RANGE)
        self.check("-z", ZERO, z=ZERO)
        self.check("z // 0", RANGE, z=RANGE)
        self.check("(1 // 0) * z", ZERO, z=RANGE)

    def test_unknown_names(self):
        self.assertEqual(caught(Formula("b + a * c").evaluate, {"a": value_of(1)}), ("UnknownName", "b"))
        self.assertEqual(caught(Formula("1 // 0 + b * a").evaluate, {"b": ZERO}), ("UnknownName", "a"))
        self.assertEqual(caught(Formula("z").evaluate, {}), ("UnknownName", "z"))
        self.assertEqual(Formula("1").evaluate({"x": ZERO}), value_of(1))


class LinearTest(unittest.TestCase):
    RESULTS = {"b": value_of(5), "c": value_of(-3), "z": ZERO, "r": RANGE, "l": value_of(LIMIT)}

    def linear(self, text):
        results = dict(self.RESULTS)
        formula = Formula(text)
        answer = formula.linear("a", results)
        results["a"] = ZERO
        self.assertEqual(formula.linear("a", results), answer)
        self.assertEqual(results, {**self.RESULTS, "a": ZERO})
        return answer

    def test_linear_formulas(self):
        for text, answer in [
                ("7", (0, 7)), ("b // 2", (0, 2)), ("a", (1, 0)), ("-a", (-1, 0)), ("--a", (1, 0)), ("a + b", (1, 5)),
                ("b - a", (-1, 5)), ("a - a", (0, 0)), ("a + a * 3", (4, 0)), ("b * a", (5, 0)), ("(a + 1) * c", (-3, -3)),
                ("c * (2 - a)", (3, -6)), ("min(b, c) * a + max(b, c)", (-3, 5)), ("0 * a", (0, 0)),
                ("(b - 5) * (a + 2)", (0, 0)), ("l * (l * a)", (LIMIT ** 2, 0)), ("(a + l) * l", (LIMIT, LIMIT ** 2)),
                ("a * l * l * l - l", (LIMIT ** 3, -LIMIT)), ("l + a + l", (1, 2 * LIMIT)), ("-(a + l) - l", (-1, -2 * LIMIT))]:
            self.assertEqual(self.linear(text), answer, text)

    def test_what_is_not_linear(self):
        for text in ["a * a", "(a - a) * a", "a // 1", "1 // a", "min(a, a)", "max(a, 1)", "min(1, 0 * a)", "-(a // 2)",
                     "1 + a // 2", "(a + 1) * (1 + a)", "2 * (a // 2)", "(a // 1) * 0", "0 // a", "0 * a * a",
                     "(a // 1) - (a // 1)"]:
            self.assertEqual(caught(self.linear, text), ("NotLinear", "a"), text)

    def test_failures(self):
        for text, word in [
                ("z", "zero"), ("a + z", "zero"), ("a + r + z", "range"), ("z * a + r", "zero"), ("a + l * 2", "range"),
                ("l * l * a", "range"), ("a * (l + 1)", "range"), ("a * 0 + 1 // 0", "zero"), ("a + " + "9" * 31, "range"),
                ("(1 // 0) * r", "zero"), ("min(1, l * l) // 0", "range"), ("a - (b // (c + 3) + l * l)", "zero")]:
            self.assertEqual(caught(self.linear, text), ("Failed", word), text)

    def test_order_of_errors(self):
        self.assertEqual(caught(self.linear, "z + a * a + q"), ("UnknownName", "q"))
        self.assertEqual(caught(self.linear, "p + a * a + q"), ("UnknownName", "p"))
        self.assertEqual(caught(self.linear, "z + a * a"), ("NotLinear", "a"))
        self.assertEqual(caught(Formula("x + a").linear, "x", {}), ("UnknownName", "a"))
        self.assertEqual(Formula("b").linear("a", self.RESULTS), (0, 5))

    def test_against_values(self):
        source = random.Random(2)

        def made(depth):
            if depth == 0:
                return source.choice(["a", "b", "c", "2", "7", "a"])
            one, other = made(depth - 1), made(source.randrange(depth))
            return source.choice([f"({one} + {other})", f"({one} - {other})", f"{one} * {other}", f"-{one}",
                                  f"min({one}, {other})", f"({one}) // {other}"])
        known = 0
        for _ in range(2000):
            text = made(source.randrange(4))
            if len(text) > 100:
                continue
            formula, answer = Formula(text), None
            try:
                answer = formula.linear("a", self.RESULTS)
            except (NotLinear, Failed):
                continue
            known += 1
            for number in (-7, 0, 1, 10):
                result = formula.evaluate({**self.RESULTS, "a": value_of(number)})
                self.assertEqual(result, value_of(answer[0] * number + answer[1]), text)
        self.assertGreater(known, 300)

    def test_error_classes(self):
        self.assertRaises(ParseError, Formula, "")
        self.assertRaises(UnknownName, Formula("x").evaluate, {})


if __name__ == "__main__":
    unittest.main()
