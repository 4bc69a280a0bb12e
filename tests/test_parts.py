"""[70], [76] to [78]: parts, their edits and results."""

import random
import unittest

from solidnames.errors import NoCells, UnknownName
from solidnames.features import Add, Copy, Cut, Keep, Mirror, Push
from solidnames.marked import Marked, nothing
from solidnames.names import names
from solidnames.parameters import Parameters
from solidnames.parts import Part, Result
from solidnames.picks import resolve
from solidnames.sketches import Sketch
from tests.helpers import LIMIT, any_values, caught, numbers, strings
from tests.randomparts import random_feature
from tests.test_evaluation import BASE, EAST, EDGE, LOST, SQUARE, TOP, sketch_of

WIDE = Add("wide", sketch_of(e="a"), ("flat", "z", "b"), ("by", "2"))


def keep(name, text="0"):
    return Keep(name, "x", text, 1)


def made(*features, **texts):
    """A part with these parameters and features."""
    part = Part()
    for name, text in texts.items():
        part.define(name, text)
    for index, feature in enumerate(features):
        part.put(index, feature)
    return part


def names_of(part):
    return [feature.name for feature in part.features]


def told_of(part):
    """All that is told of a part, but for its steps."""
    result = part.result
    return [part.parameters, part.features, result, result.marked, result.results, list(part.solids()), len(part),
            [(name, part.is_on(name), part[name], name in part, result.status(name), result.ahead(name), result.outcomes(name))
             for name in names_of(part)]]


def rebuilt(part):
    """A part with the same parameters, features and switches, built anew."""
    other, left = Part(), list(part.parameters.names)
    while left:
        name = next(name for name in left if all(read in other.parameters for read in part.parameters[name].names))
        other.define(name, part.parameters[name].text)
        left.remove(name)
    for feature in reversed(part.features):
        other.put(0, feature)
        if not part.is_on(feature.name):
            other.switch(feature.name, False)
    return other


class ExampleTest(unittest.TestCase):
    def test_example_of_the_interface(self):
        part = Part()
        base = Sketch(["south", "east", "north", "west"], dimensions=[
            ("west", None, "0"), ("east", None, "a"), ("south", None, "0"), ("north", None, "4")])
        top = ("face", "base/end", ("base/side/east", "base/side/north", "base/side/south", "base/side/west"), 0, 1)
        self.assertEqual([part.define("a", "5"), part.put(0, Add("base", base, ("flat", "z", "0"), ("by", "2"))),
                          part.put(1, Push("up", top, "1"))], [[], ['base'], ['up']])
        self.assertEqual([part.result.resolve(top)[0], part.result.marked.origins == part.result.ahead("up").origins,
                          part.define("a", "6")], ['same', True, ['base', 'up']])

    def test_empty_part(self):
        part = Part()
        self.assertEqual([part.parameters, part.features, part.steps, len(part), list(part.solids())], [Parameters(), (), 0, 0, []])
        self.assertIsInstance(part.result, Result)
        self.assertEqual([part.result.marked, part.result.results, part.variant()], [nothing(), {}, part.result])
        self.assertEqual([caught(part.undo), caught(part.redo)], [("NothingToUndo",), ("NothingToRedo",)])
        self.assertEqual(part, Part())


class EditTest(unittest.TestCase):
    def unchanged(self, part, error, call, *arguments):
        """The call raises the error and changes nothing."""
        before, steps = told_of(part), part.steps
        self.assertEqual(caught(call, *arguments), error)
        self.assertEqual([told_of(part), part.steps], [before, steps])

    def test_define(self):
        part = made(WIDE, Push("up", EAST, "c"), a="5", b="0", c="1")
        self.assertEqual([part.define("a", "6"), part.define("d", "a"), part.define("b", "0 - 0")], [["wide", "up"], [], []])
        self.assertEqual([part.define("c", "2"), part.define(text="7", name="a"), part.steps], [[], ["wide", "up"], 10])
        self.assertEqual(part.result.results, {"a": ("value", 7), "b": ("value", 0), "c": ("value", 2), "d": ("value", 7)})
        for value in any_values() + numbers() + ["", "A", "abcdefghi", "min", "max", "self", "a1"]:
            before, steps = told_of(part), part.steps
            error = caught(part.define, value, None)
            self.assertEqual((error[0], error[1] is value), ("InvalidName", True))
            self.assertEqual([told_of(part), part.steps], [before, steps])
        for value in any_values() + numbers():
            self.unchanged(part, ("ParseError", 0), part.define, "a", value)
        self.unchanged(part, ("ParseError", 2), part.define, "a", "1 1")
        self.unchanged(part, ("UnknownName", "z"), part.define, "y", "z + 1")
        self.unchanged(part, ("Ring", ("a", "d")), part.define, "a", "d")
        self.unchanged(part, ("Ring", ("e",)), part.define, "e", "e")

    def test_define_the_most(self):
        part = Part()
        source = [a + b for a in "abcdefgh" for b in "abcde"]
        for name in source:
            part.define(name, "1")
        self.unchanged(part, ("TooMany", 40), part.define, "zz", "1")
        self.assertEqual([part.define("aa", "2"), part.steps], [[], 41])

    def test_drop(self):
        part = made(WIDE, Push("up", EAST, "c"), keep("half", "a"), a="5", b="0", c="1", d="2", e="d")
        self.unchanged(part, ("InUse", "e"), part.drop, "d")
        self.unchanged(part, ("InUse", "wide"), part.drop, "a")
        self.unchanged(part, ("InUse", "wide"), part.drop, "b")
        self.unchanged(part, ("InUse", "up"), part.drop, "c")
        part.switch("up", False)
        self.unchanged(part, ("InUse", "up"), part.drop, "c")
        self.assertEqual([part.drop("e"), part.drop(name="d"), part.parameters.names], [[], [], ("a", "b", "c")])
        part.define("f", "c")
        self.unchanged(part, ("InUse", "f"), part.drop, "c")
        for value in any_values() + numbers() + strings()[:3] + ["z", "wide"]:
            error = caught(part.drop, value)
            self.assertEqual((error[0], error[1] is value), ("UnknownName", True))

    def test_put(self):
        part = made(a="3", b="0")
        self.assertEqual([part.put(0, WIDE), part.put(0, keep("p")), part.put(2, keep("q", "1")), part.put(1, keep("r"))],
                         [["wide"], ["p"], ["q"], ["r"]])
        self.assertEqual([names_of(part), part.steps], [["p", "r", "wide", "q"], 6])
        self.assertEqual(part.put(feature=Push("up", LOST, "1"), index=4), ["up"])
        self.assertEqual(part.result.status("up"), ("failed", "pick", ("lost",)))
        for value in any_values() + numbers() + strings() + ["wide", [keep("a")]]:
            error = caught(part.put, None, value)
            self.assertEqual((error[0], error[1] is value), ("NotFeature", True))
        for value in any_values() + strings() + [-1, 6, LIMIT, "0"]:
            before, steps = told_of(part), part.steps
            error = caught(part.put, value, WIDE)
            self.assertEqual((error[0], error[1] is value), ("InvalidIndex", True))
            self.assertEqual([told_of(part), part.steps], [before, steps])
        self.unchanged(part, ("DuplicateName", "p"), part.put, 0, keep("p", "z"))
        self.unchanged(part, ("UnknownName", "d"), part.put, 0, Copy("s", "wide", ("x", "z", "d"), ("x", "e", "a")))
        self.unchanged(part, ("UnknownName", "z"), part.put, 5, keep("s", "z"))

    def test_put_the_most(self):
        part = made(*[keep("abcdefghijkl"[k]) for k in range(12)])
        self.assertEqual(len(part), 12)
        self.unchanged(part, ("DuplicateName", "a"), part.put, 0, keep("a", "z"))
        self.unchanged(part, ("InvalidIndex", 13), part.put, 13, keep("a"))
        self.unchanged(part, ("TooMany", 12), part.put, 12, keep("m", "z"))
        self.unchanged(part, ("TooMany", 12), part.put, 0, keep("m"))
        self.assertEqual([part.take("c"), part.put(0, keep("m")), names_of(part)], [[], ["m"], list("mabdefghijkl")])

    def test_replace(self):
        part = made(BASE, Push("up", TOP, "1"), keep("half", "1"), a="3")
        self.assertEqual([part.replace(keep("half", "2")), part.replace(keep("half", "a - 1")), part.replace(feature=keep("up", "1"))],
                         [["half"], [], ["up", "half"]])
        self.assertEqual([names_of(part), part["up"]], [["base", "up", "half"], keep("up", "1")])
        part.switch("base", False)
        self.assertEqual([part.replace(Add("base", sketch_of(e="9"), ("flat", "z", "0"), ("by", "2"))), part.is_on("base")], [[], False])
        self.assertEqual(part.switch("base", True), ["base", "up", "half"])
        for value in any_values() + numbers() + strings() + ["up"]:
            error = caught(part.replace, value)
            self.assertEqual((error[0], error[1] is value), ("NotFeature", True))
        self.unchanged(part, ("UnknownName", "other"), part.replace, keep("other", "z"))
        self.unchanged(part, ("UnknownName", "y"), part.replace, keep("up", "z + y"))

    def test_take(self):
        part = made(BASE, Push("up", TOP, "1"), keep("half", "1"))
        self.assertEqual([part.take("up"), part.take(name="base"), names_of(part)], [["half"], ["half"], ["half"]])
        for value in any_values() + numbers() + strings()[:3] + ["up", "base"]:
            error = caught(part.take, value)
            self.assertEqual((error[0], error[1] is value), ("UnknownName", True))
        self.assertEqual([part.take("half"), part.steps, len(part)], [[], 6, 0])

    def test_taken_and_put_again_is_on(self):
        part = made(BASE)
        part.switch("base", False)
        part.take("base")
        self.assertEqual([part.put(0, BASE), part.is_on("base")], [["base"], True])

    def test_move(self):
        part = made(BASE, Push("up", TOP, "1"), keep("half", "1"), keep("rest"))
        self.assertEqual([part.move("rest", 0), names_of(part)], [["rest"], ["rest", "base", "up", "half"]])
        self.assertEqual([part.move("base", 3), names_of(part)], [["up", "half"], ["rest", "up", "half", "base"]])
        self.assertEqual([part.result.status("up")[1], part.result.marked.to_solid().volume], ["pick", 32])
        part.switch("up", False)
        self.assertEqual(part.move(index=1, name="base"), ["up", "half"])
        self.assertEqual([names_of(part), part.is_on("up"), part.is_on("base")], [["rest", "base", "up", "half"], False, True])
        part.move("up", 0)
        self.assertEqual([names_of(part), part.is_on("up"), part.is_on("rest")], [["up", "rest", "base", "half"], False, True])
        steps = part.steps
        self.assertEqual([part.move("up", 0), part.steps], [[], steps + 1])
        for value in any_values() + numbers() + strings()[:3] + ["none"]:
            error = caught(part.move, value, None)
            self.assertEqual((error[0], error[1] is value), ("UnknownName", True))
        for value in any_values() + strings() + [-1, 4, LIMIT]:
            before, steps = told_of(part), part.steps
            error = caught(part.move, "base", value)
            self.assertEqual((error[0], error[1] is value), ("InvalidIndex", True))
            self.assertEqual([told_of(part), part.steps], [before, steps])

    def test_switch(self):
        part = made(BASE, Push("up", TOP, "1"), Mirror("twin", "base", "x", "0"))
        self.assertEqual([part.switch("up", False), part.switch("up", False), part.is_on("up"), part.steps], [["up", "twin"], [], False, 5])
        self.assertEqual([part.result.status("up"), part.result.marked.to_solid().volume], [("off",), 64])
        self.assertEqual([part.switch(on=False, name="base"), part.result.status("twin")],
                         [["base", "up", "twin"], ("failed", "source", "base")])
        self.assertEqual([part.switch("base", True), part.switch("up", True)], [["base", "up", "twin"], ["up", "twin"]])
        for value in any_values() + numbers() + strings()[:3] + ["none"]:
            error = caught(part.switch, value, None)
            self.assertEqual((error[0], error[1] is value), ("UnknownName", True))
        for value in [one for one in any_values() if not isinstance(one, bool)] + strings() + [0, 1, "True"]:
            error = caught(part.switch, "up", value)
            self.assertEqual((error[0], error[1] is value), ("NotFlag", True))

    def test_each_edit_is_a_step(self):
        part = made(BASE, a="1")
        for edit in (lambda: part.define("a", "1"), lambda: part.replace(BASE), lambda: part.move("base", 0), lambda: part.switch("base", True)):
            before, steps = told_of(part), part.steps
            self.assertEqual([edit(), part.steps, told_of(part)], [[], steps + 1, before])

    def test_touched_names(self):
        """[78], held against what is told before and behind."""
        source = random.Random(80)
        for _ in range(12):
            part = made(p="2", q="1")
            for _ in range(15):
                before = {name: (status, marked) for name, status, marked in part.solids()}
                touched = random_edit(source, part)
                self.assertEqual(touched, [name for name, status, marked in part.solids() if before.get(name) != (status, marked)])


def random_edit(source, part):
    """Some edit that is possible; what it returns."""
    present = names_of(part)
    word = source.choice(["define", "put", "put", "put", "replace", "take", "move", "switch", "switch"])
    if word == "define" or not present and word != "put":
        return part.define(source.choice("pq"), source.choice(["1", "2", "3", "1 // 0"]) if source.random() < 0.9 else "2")
    free = [name for name in "abcdefgh" if name not in present]
    marked = source.choice([row[2] for row in part.solids()]) if present else nothing()
    if word == "put" and free:
        index = source.randrange(len(present) + 1)
        feature = random_feature(source, source.choice(free), names(marked), present or ["zz"])
        return part.put(index, feature)
    name = source.choice(present)
    if word == "replace" or word == "put":
        return part.replace(random_feature(source, name, names(marked), present))
    if word == "take":
        return part.take(name)
    if word == "move":
        return part.move(name, source.randrange(len(present)))
    return part.switch(name, source.random() < 0.6)


class StepTest(unittest.TestCase):
    def test_undo_and_redo(self):
        part, told = Part(), []
        edits = [lambda: part.define("a", "4"), lambda: part.define("b", "0"), lambda: part.put(0, WIDE), lambda: part.put(1, keep("half", "1")),
                 lambda: part.switch("half", False), lambda: part.move("half", 0), lambda: part.replace(keep("half", "2")),
                 lambda: part.define("a", "5"), lambda: part.take("half"), lambda: part.define("c", "1"),
                 lambda: part.drop("c")]
        for edit in edits:
            told.append(told_of(part))
            edit()
        told.append(told_of(part))
        for _ in range(2):
            for k in range(len(edits), 0, -1):
                self.assertEqual([part.steps, told_of(part)], [k, told[k]])
                self.assertIsNone(part.undo())
            self.assertEqual([part.steps, caught(part.undo), told_of(part)], [0, ("NothingToUndo",), told[0]])
            for k in range(len(edits)):
                self.assertEqual([part.steps, told_of(part)], [k, told[k]])
                self.assertIsNone(part.redo())
            self.assertEqual([part.steps, caught(part.redo), told_of(part)], [len(edits), ("NothingToRedo",), told[-1]])

    def test_an_edit_makes_redoing_impossible(self):
        part = made(a="1", b="2")
        part.undo()
        part.undo()
        part.redo()
        self.assertEqual([part.define("a", "1"), part.steps, caught(part.redo)], [[], 2, ("NothingToRedo",)])
        part.undo()
        self.assertEqual([caught(part.define, "a", "?"), part.redo()], [("ParseError", 0), None])

    def test_main_promise(self):
        """[77]: all that is told is that of a part that is built anew."""
        source = random.Random(81)
        for _ in range(14):
            part = made(p="2", q="1")
            for _ in range(14):
                word = source.random()
                if word < 0.2 and part.steps > 2:
                    part.undo()
                elif word < 0.3 and caught(lambda: part.explore(lambda same: same.redo())) is None:
                    part.redo()
                elif word < 0.4:
                    part.explore(lambda same: [random_edit(source, same) for _ in range(2)])
                else:
                    random_edit(source, part)
            other = rebuilt(part)
            self.assertEqual(told_of(part), told_of(other))
            self.assertEqual(part, other)
            self.assertEqual([part.variant(p=3), part.variant(q=2, p=1)], [other.variant(p=3), other.variant(p=1, q=2)])
            for pick in names(part.result.marked)[:10]:
                self.assertEqual(part.result.resolve(pick), ("same", pick))


class CallTest(unittest.TestCase):
    def test_attempt(self):
        part = made(a="1")
        part.define("a", "2")
        part.undo()
        seen = []

        def edits(same):
            seen.append(same)
            return [same.define("a", "3"), same.define("b", "4"), "told"]
        self.assertEqual(part.attempt(edits), [[], [], "told"])
        self.assertIs(seen[0], part)
        self.assertEqual([part.steps, part.result.results["b"], caught(part.redo)], [3, ("value", 4), ("NothingToRedo",)])
        self.assertIsNone(part.attempt(call=lambda same: None))

    def test_attempt_with_an_error(self):
        for error in (ValueError, NoCells, KeyError, StopIteration, KeyboardInterrupt, Exception):
            part = made(BASE, a="1", b="2")
            part.undo()
            before = [told_of(part), part.steps]

            def edits(same):
                same.define("a", "3")
                same.put(0, keep("half"))
                same.undo()
                same.undo()
                same.undo()
                same.define("c", "1")
                raise error()
            with self.assertRaises(error):
                part.attempt(edits)
            self.assertEqual([told_of(part), part.steps], [before[0], before[1]])
            part.redo()
            self.assertEqual([names_of(part), part.steps], [["base"], 3])
            part.undo()
            part.undo()
            self.assertEqual(part.parameters.names, ("a",))

    def test_attempt_nested(self):
        part = made(a="1")

        def inner(same):
            same.define("a", "3")
            raise UnknownName("x")

        def outer(same):
            same.define("a", "2")
            self.assertEqual(caught(same.attempt, inner), ("UnknownName", "x"))
            self.assertEqual([same.result.results["a"], same.steps], [("value", 2), 2])
            same.attempt(lambda again: again.define("b", "1"))
            return same.explore(lambda again: (again.define("b", "9"), again.result.results["b"]))
        self.assertEqual(part.attempt(outer), ([], ("value", 9)))
        self.assertEqual([part.result.results, part.steps], [{"a": ("value", 2), "b": ("value", 1)}, 3])

        def failing(same):
            same.attempt(lambda again: again.define("b", "5"))
            same.explore(lambda again: again.undo())
            raise NoCells()
        self.assertEqual(caught(part.attempt, failing), ("NoCells",))
        self.assertEqual([part.result.results["b"], part.steps], [("value", 1), 3])

    def test_explore(self):
        part = made(BASE, a="1")
        part.define("a", "2")
        part.undo()
        before, steps = told_of(part), part.steps

        def edits(same):
            self.assertIs(same, part)
            same.undo()
            same.undo()
            self.assertEqual(caught(same.undo), ("NothingToUndo",))
            same.define("z", "1")
            return same.steps
        self.assertEqual(part.explore(edits), 1)
        self.assertEqual([told_of(part), part.steps], [before, steps])
        with self.assertRaises(NoCells):
            def failing(same):
                same.take("base")
                raise NoCells()
            part.explore(call=failing)
        self.assertEqual([told_of(part), part.steps], [before, steps])
        part.redo()
        self.assertEqual([part.result.results["a"], part.steps], [("value", 2), steps + 1])

    def test_variant(self):
        part = made(WIDE, Push("up", EAST, "c"), a="5", b="0", c="a - 4")
        before, steps = told_of(part), part.steps
        result = part.variant(a=6)
        self.assertIsInstance(result, Result)
        self.assertEqual([result.results["a"], result.results["c"], result.marked.to_solid().bounds[1]], [("value", 6), ("value", 2), (6, 4, 2)])
        self.assertEqual([told_of(part), part.steps], [before, steps])
        self.assertEqual(part.variant(), part.result)
        self.assertEqual(part.variant(a=0).status("wide"), ("failed", "sketch", ("crossing", "e", "w")))
        self.assertEqual(caught(part.variant, a=True, zz=1), ("UnknownName", "zz"))
        self.assertEqual(caught(part.variant, b=LIMIT + 1, a="1"), ("InvalidNumber", "1"))
        part.switch("up", False)
        self.assertEqual(part.variant(a=6).status("up"), ("off",))
        part.define("a", "6")
        self.assertEqual(part.result, part.variant(a=6))

    def test_solids(self):
        part = made(BASE, Push("up", TOP, "1"), Push("bad", LOST, "1"))
        rows = list(part.solids())
        self.assertEqual([row[:2] for row in rows], [("base", ("ok",)), ("up", ("ok",)), ("bad", ("failed", "pick", ("lost",)))])
        self.assertTrue(all(isinstance(row[2], Marked) for row in rows))
        self.assertEqual([rows[0][2], rows[1][2], rows[2][2]], [part.result.ahead("up"), part.result.marked, part.result.marked])
        # It works when its first item is requested, and tells things as they are then.
        walk = part.solids()
        part.take("bad")
        self.assertEqual(next(walk), rows[0])
        part.take("up")
        self.assertEqual(list(walk), [rows[1]])
        self.assertEqual(list(part.solids()), [rows[0]])


class ReadingTest(unittest.TestCase):
    def test_of_a_part(self):
        part = made(BASE, keep("half", "a"), a="1")
        self.assertEqual([part["base"], part["half"], len(part), part.features], [BASE, keep("half", "a"), 2, (BASE, keep("half", "a"))])
        self.assertEqual(["base" in part, "half" in part, "none" in part], [True, True, False])
        for value in any_values() + numbers() + strings() + ["none", BASE, ("base",), "Base"]:
            self.assertFalse(value in part)
            for call in (part.is_on, lambda v: part[v], part.result.status, part.result.ahead, part.result.outcomes):
                error = caught(call, value)
                self.assertEqual((error[0], error[1] is value), ("UnknownName", True), repr(value))
        with self.assertRaises(TypeError):
            iter(part)

    def test_equality(self):
        part = made(BASE, keep("half", "a"), a="1")
        self.assertEqual(part, made(BASE, keep("half", "a"), a="1"))
        other = Part()
        other.put(0, BASE)
        other.define("a", "2")
        other.put(1, keep("half", "a"))
        self.assertNotEqual(part, other)
        other.define("a", "1")
        self.assertEqual(part, other)
        other.switch("half", False)
        self.assertNotEqual(part, other)
        self.assertNotEqual(part, made(keep("half", "a"), BASE, a="1"))
        self.assertNotEqual(part, made(BASE, keep("half", "a"), a="1", b="1"))
        self.assertNotEqual(part, made(BASE, keep("half", "a"), a=" 1"))
        for value in any_values() + [part.result, part.features]:
            self.assertFalse(part == value)

    def test_values_are_not_those_of_later(self):
        part = made(BASE, a="1")
        result, features, parameters = part.result, part.features, part.parameters
        part.take("base")
        part.define("a", "2")
        self.assertEqual([result.status("base"), features, parameters.results["a"]], [("ok",), (BASE,), ("value", 1)])
        result.results.clear()
        self.assertEqual(result.results, {"a": ("value", 1)})

    def test_result(self):
        part = made(BASE, Push("up", TOP, "b"), b="2", a="1 // 0")
        result = part.result
        self.assertEqual([list(result.results.items()), result.status("up")], [[("a", ("failed", "zero")), ("b", ("value", 2))], ("ok",)])
        self.assertEqual([result.ahead("base"), result.ahead("up").to_solid().volume, result.marked.to_solid().volume], [nothing(), 32, 64])
        for pick in [TOP, EDGE, LOST]:
            self.assertEqual(result.resolve(pick), resolve(result.marked, pick))
        for value in any_values() + strings():
            error = caught(result.resolve, value)
            self.assertEqual((error[0], error[1] is value), ("InvalidPick", True))
        self.assertEqual(result.resolve(pick=TOP), ("same", TOP))

    def test_outcomes(self):
        corner = ("corner", tuple(sorted((TOP, EAST))), 0, 1)
        part = made(BASE, Push("edge", EDGE, "1"), Push("corner", corner, "1 // 0"), Cut("two", SQUARE, ("on", TOP, "0"), ("to", LOST)),
                    Push("up", TOP, "1"), keep("half"))
        result = part.result
        self.assertEqual([result.status(name)[1:] for name in ("edge", "corner", "two")],
                         [("pick", ("lost",)), ("value", "zero"), ("pick", ("lost",))])
        self.assertEqual(result.outcomes("edge"), (resolve(result.ahead("edge"), EDGE),))
        self.assertEqual(result.outcomes("edge")[0][0], "same")
        self.assertEqual(result.outcomes("corner"), (resolve(result.ahead("corner"), corner),))
        self.assertEqual([result.outcomes("two"), result.outcomes("up")], [(("same", TOP), ("lost",)), (("same", TOP),)])
        self.assertEqual([result.outcomes("base"), result.outcomes("half")], [(), ()])
        part.switch("two", False)
        self.assertEqual([part.result.status("two"), part.result.outcomes("two")], [("off",), (("same", TOP), ("lost",))])
        part.switch("base", False)
        self.assertEqual(part.result.outcomes(name="two"), (("lost",), ("lost",)))

    def test_result_equality(self):
        part = made(BASE, Push("up", TOP, "b"), b="2")
        result = part.result
        self.assertEqual(result, made(BASE, Push("up", TOP, "2"), b="1 + 1").result)
        self.assertNotEqual(result, made(BASE, Push("up", TOP, "2"), b="2", c="1").result)
        self.assertNotEqual(result, made(BASE, Push("on", TOP, "2"), b="2").result)
        self.assertNotEqual(result, made(BASE, Push("up", TOP, "2"), b="3").result)
        # The last solids alone are equal, or all are but for a status.
        self.assertNotEqual(made(BASE, keep("a", "1"), keep("b", "2")).result, made(BASE, keep("a", "2"), keep("b", "1")).result)
        self.assertNotEqual(made(BASE, keep("a")).result, made(BASE, keep("a", "1 // 0")).result)
        self.assertNotEqual(made(BASE, keep("a", "9"), keep("b", "3")).result, made(BASE, keep("a", "1"), keep("b", "9")).result)
        for value in any_values() + [part, result.marked, result.results]:
            self.assertFalse(result == value)


if __name__ == "__main__":
    unittest.main()
