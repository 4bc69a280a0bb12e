"""The main promises over the whole program: [52] and [77] for parts that are read, varied and edited by lines."""

import random
import re
import unittest

from solidnames.console import Console
from solidnames.features import Add, Cut, Keep, Push
from solidnames.names import names
from solidnames.nametexts import read_name, show_name
from solidnames.parts import Part
from solidnames.ranges import same_order
from solidnames.reading import read_part
from solidnames.sketches import Sketch
from solidnames.texts import feature_text, part_text, table
from tests.helpers import LIMIT, caught
from tests.randomparts import random_feature
from tests.test_evaluation import LOST
from tests.test_parts import made, names_of, random_edit, rebuilt, told_of

# How many parameters there are for the coordinates of each axis, and how great they may be so that differences are no failures.
MANY = 7
HALF = LIMIT // 2


def random_line(source, part):
    """A line that edits, or tries to."""
    present = names_of(part)
    name = source.choice(present or ["a"])
    word = source.choice(["let", "put", "put", "put", "replace", "take", "move", "on", "off", "off", "undo", "undo", "redo", "drop"])
    if word == "let":
        return f"let {source.choice('pqr')} {source.choice(['1', '2', ' 3', 'p + 1', '2 * q', '1 // 0'])}"
    if word in ("put", "replace"):
        known = names(source.choice([row[2] for row in part.solids()])) if present else []
        if word == "put":
            name = source.choice([one for one in "abcdefgh" if one not in present] or ["a"])
        text = feature_text(random_feature(source, name, known, present or ["a"])).replace("\n", source.choice([" ; ", "\n"]))
        return f"put {source.randrange(len(present) + 1)} {text}" if word == "put" else f"replace {text}"
    if word == "move":
        return f"move {name} {source.randrange(len(present) + 1)}"
    return {"undo": "undo", "redo": "redo", "drop": f"drop {source.choice('pqr')}"}.get(word, f"{word} {name}")


class TextPromiseTest(unittest.TestCase):
    """[77]"""

    def check(self, part, source):
        before = [name for row in part.solids() for name in names(row[2])]
        again, other = read_part(part_text(part)), rebuilt(part)
        self.assertEqual([again, again.steps], [part, 0])
        for one in (again, other):
            self.assertEqual(told_of(one), told_of(part))
            self.assertEqual([part_text(one), table(one)], [part_text(part), table(part)])
            self.assertEqual(names(one.result.marked), names(part.result.marked))
            for pick in source.sample(before, min(12, len(before))):
                self.assertEqual(one.result.resolve(pick), part.result.resolve(pick))
                self.assertEqual(one.result.resolve(read_name(show_name(pick))), part.result.resolve(pick))
            self.assertEqual(one.variant(p=1, q=3), part.variant(p=1, q=3))

    def test_after_edits_and_lines(self):
        source = random.Random(230)
        for _ in range(14):
            console = Console()
            part = console.part
            console("let p 2")
            console("let q 1")
            part.define("r", "p + q")
            for _ in range(14):
                choice = source.random()
                if choice < 0.3:
                    random_edit(source, part)
                elif choice < 0.4 and part.steps > 5:
                    part.undo()
                elif choice < 0.5:
                    line = random_line(source, part)
                    before, steps = told_of(part), part.steps
                    error = caught(console, "try " + line)
                    self.assertEqual([told_of(part), part.steps], [before, steps])
                    self.assertEqual(caught(part.explore, lambda same: console(line)), error)
                else:
                    line = random_line(source, part)
                    before, steps = told_of(part), part.steps
                    if caught(console, line) is not None:
                        self.assertEqual([told_of(part), part.steps], [before, steps])
                if "p" not in part.parameters or "q" not in part.parameters:
                    part.undo()
            self.check(part, source)

    def test_a_part_that_was_read_goes_on(self):
        """Edited alike, it stays equal to the one that was written."""
        source = random.Random(231)
        for _ in range(10):
            part = made(p="2", q="1")
            for _ in range(6):
                random_edit(source, part)
            again = read_part(part_text(part))
            for _ in range(8):
                line = random_line(source, part)
                console, other = Console(), Console()
                console.part, other.part = part, again
                if line in ("undo", "redo"):
                    continue
                error = caught(console, line)
                self.assertEqual(caught(other, line), error)
                self.assertEqual([told_of(part), part_text(part)], [told_of(again), part_text(again)])

    def test_variants(self):
        """A variant is the result of the part that has these integers."""
        source = random.Random(232)
        for _ in range(10):
            part = made(p="2", q="1", r="p + q")
            for _ in range(8):
                random_edit(source, part)
            values = {"p": source.randrange(5), "r": source.randrange(5)}
            other = read_part(part_text(part))
            for name, value in values.items():
                other.define(name, str(value))
            self.assertEqual([other.result, read_part(part_text(other)).result], [part.variant(**values)] * 2)


def ladder_part(source, ups):
    """A part whose coordinates are all among ascending parameters of each axis; from its texts other ones can be made."""
    part = Part()
    for axis in "xyz":
        for k in range(MANY):
            part.define(f"{axis}{'abcdefg'[k]}", str(ups[axis][k]))

    def pair(axis):
        return [f"{axis}{'abcdefg'[k]}" for k in sorted(source.sample(range(MANY), 2))]
    for name in source.sample(["base", "up", "cut", "over", "start", "zed"], 6):
        axis = source.choice("xyz")
        first, second = {"x": "yz", "y": "zx", "z": "xy"}[axis]
        (west, east), (south, north), (low, high) = pair(first), pair(second), pair(axis)
        sketch = Sketch(["s", "e", "n", "w"], dimensions=[("s", None, south), ("n", None, north), ("e", "w", f"{east} - {west}"), ("w", None, west)])
        kind = source.choice([Add, Add, Cut, Cut, Keep, Push])
        faces = [one for one in names(part.result.marked) if one[0] == "face"]
        if kind == Keep:
            part.put(len(part), Keep(name, axis, source.choice([low, high]), source.choice([1, -1])) if source.random() < 0.4 else Add(name, sketch, ("flat", axis, low), ("by", f"{high} - {low}")))
        elif kind == Push and faces:
            part.put(len(part), Push(name, source.choice(faces), "0"))
        elif kind == Cut and source.random() < 0.3:
            part.put(len(part), Cut(name, sketch, ("flat", axis, low), ("all",)))
        elif kind != Push and faces and source.random() < 0.4:
            part.put(len(part), kind(name, sketch, ("flat", axis, low), ("to", source.choice(faces))))
        elif kind != Push:
            plane, extent = source.choice([(low, "by"), (high, "back")])
            part.put(len(part), kind(name, sketch, ("flat", axis, plane), (extent, f"{high} - {low}")))
    return part


class NamePromiseTest(unittest.TestCase):
    """[52]"""

    def test_other_coordinates_in_the_same_order(self):
        source = random.Random(233)
        compared = 0
        for _ in range(16):
            plain = {axis: range(MANY) for axis in "xyz"}
            part = ladder_part(source, plain)
            for ups in ({axis: sorted(source.sample(range(-60, 60), MANY)) for axis in "xyz"},
                        {"x": [-HALF, -7, -6, 0, 1, HALF - 1, HALF], "y": [k * 10 ** 20 for k in range(MANY)],
                         "z": sorted(source.randrange(-HALF, HALF) for _ in range(MANY))}):
                values = {f"{axis}{'abcdefg'[k]}": ups[axis][k] for axis in "xyz" for k in range(MANY)}
                other = part.variant(**values)
                text = re.sub("let ([xyz][a-g]) [0-9]+", lambda found: f"let {found[1]} {values[found[1]]}", part_text(part))
                again = read_part(text)
                self.assertEqual(again.result.marked, other.marked)
                self.assertTrue(same_order(part.result, other))
                for (name, status, marked), record in zip(part.solids(), again.solids()):
                    self.assertEqual([record[0], record[1], names(record[2])], [name, status, names(marked)])
                    compared += len(names(marked))
                    for axis in "xyz":
                        self.assertEqual(record[2].lines(axis), tuple(ups[axis][number] for number in marked.lines(axis)))
        self.assertGreater(compared, 2000)

    def test_a_letter_in_front_of_all_names(self):
        source = random.Random(234)
        compared = 0
        for _ in range(14):
            part = made(p="2", q="3")
            for name in source.sample(["fa", "fb", "gc", "gd", "he", "hf", "ig"], 6):
                known = names(part.result.marked) or [LOST]
                sources = [feature.name for feature in part.features if feature.kind in ("add", "cut")] or ["fa"]
                for _ in range(5):
                    part.put(len(part), random_feature(source, name, known, sources))
                    if part.result.status(name) == ("ok",):
                        break
                    part.take(name)
            part.switch(source.choice(part.features).name, False)
            text = renamed_text(part_text(part))
            other = read_part(text)
            self.assertEqual(other.result.results, {"x" + name: told for name, told in part.result.results.items()})
            for (name, status, marked), (other_name, other_status, other_marked) in zip(part.solids(), other.solids()):
                self.assertEqual([other_name, other_status[:2]], ["x" + name, status[:2]])
                self.assertEqual(marked.to_solid(), other_marked.to_solid())
                found = [renamed_text(show_name(one)) for one in names(marked)]
                self.assertEqual([show_name(one) for one in names(other_marked)], found)
                compared += len(found)
            for pick in names(part.result.ahead(part.features[-1].name)):
                answer, other_answer = part.result.resolve(pick), other.result.resolve(read_name(renamed_text(show_name(pick))))
                self.assertEqual(other_answer[0], answer[0])
                if answer[0] in ("same", "changed"):
                    self.assertEqual(show_name(other_answer[1]), renamed_text(show_name(answer[1])))
        self.assertGreater(compared, 1000)


def renamed_text(text):
    """The text with an x in front of all names of features, which have two letters, and of the parameters p and q."""
    return re.sub("(?<![a-z])(f[ab]|g[cd]|h[ef]|ig|p|q)(?![a-z])", "x\\1", text)


if __name__ == "__main__":
    unittest.main()
