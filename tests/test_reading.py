"""[120] to [123]: texts of features and parts, reading them, and the table."""

import random
import unittest
from collections import Counter

from solidnames.features import Add, Copy, Cut, Keep, Mirror, Push
from solidnames.names import names
from solidnames.parts import Part
from solidnames.reading import read_feature, read_part
from solidnames.sketches import Sketch
from solidnames.texts import feature_text, part_text, table
from tests.helpers import LIMIT, any_values, caught, numbers, strings
from tests.plainlines import first_wrong
from tests.randomparts import random_feature
from tests.test_evaluation import BASE, EAST, LOST, TOP
from tests.test_nametexts import changed_texts
from tests.test_parts import keep, made, random_edit
from tests.test_picks import CORNER, EDGE, FACE, OTHER

TWO = Sketch(["a", "b", "c", "d"], ["i", "j", "k", "l", "m", "n"], dimensions=[
    ("a", None, " 0"), ("c", "a", "2 * p "), ("b", "d", "  min( p , 3 )  "), ("i", "k", "-p")])
BARE = Sketch(["s", "e", "n", "w"])
FLAT, ON = ("flat", "z", "low  -  1"), ("on", FACE, " up ")
FACE_TEXT, OTHER_TEXT = "face a/+x 0/1 a/+y a/-y", "face a/+y 1/3 a/+x"
ALL = [
    Add("one", TWO, FLAT, ("by", "tall"), ("p", " q")), Cut("two", BARE, ON, ("back", " 2*tall")), Add("three", BARE, ON, ("to", OTHER), ("0", "-1")),
    Cut("four", TWO, ("flat", "x", "1"), ("all",)), Cut("five", BARE, ("on", EDGE, "0"), ("to", CORNER)), Copy("six", "one", ("x", "d", "n")),
    Copy("seven", "one", ("x", " d ", "n"), ("z", "e", " m")), Mirror("eight", "seven", "y", "m "), Push("nine", EDGE, " p"), Push("ten", CORNER, "p"),
    Keep("off", "x", "k", 1), Keep("twelve", "y", "  k", -1)]


def part_of_all():
    part = made(*ALL[:0], **{name: "1" for name in ["d", "e", "k", "low", "m", "n", "p", "q", "tall", "up"]})
    for index, feature in enumerate(ALL):
        part.put(index, feature)
    for name in ("two", "off", "nine"):
        part.switch(name, False)
    return part


class TextTest(unittest.TestCase):
    def test_of_features(self):
        self.assertEqual([feature_text(feature).split("\n") for feature in ALL], [
            ["add one", "outline a b c d", "outline i j k l m n", "dimension a -  0", "dimension c a 2 * p ", "dimension b d   min( p , 3 )  ",
             "dimension i k -p", "flat z low  -  1", "by tall", "shift p", "shift  q"],
            ["cut two", "outline s e n w", "on  up ", f"pick {FACE_TEXT}", "back  2*tall", "shift 0", "shift 0"],
            ["add three", "outline s e n w", "on  up ", f"pick {FACE_TEXT}", f"to {OTHER_TEXT}", "shift 0", "shift -1"],
            ["cut four", "outline a b c d", "outline i j k l m n", "dimension a -  0", "dimension c a 2 * p ", "dimension b d   min( p , 3 )  ",
             "dimension i k -p", "flat x 1", "all", "shift 0", "shift 0"],
            ["cut five", "outline s e n w", "on 0", f"pick edge 0/2 ({FACE_TEXT}) ({OTHER_TEXT})",
             f"to corner 1/2 ({FACE_TEXT}) ({OTHER_TEXT}) (face b/+y 0/2 a/+x b)", "shift 0", "shift 0"],
            ["copy six", "source one", "axis x", "distance d", "count n"],
            ["copy seven", "source one", "axis x", "distance  d ", "count n", "axis z", "distance e", "count  m"],
            ["mirror eight", "source seven", "axis y", "at m "],
            ["push nine", f"pick edge 0/2 ({FACE_TEXT}) ({OTHER_TEXT})", "by  p"],
            ["push ten", f"pick corner 1/2 ({FACE_TEXT}) ({OTHER_TEXT}) (face b/+y 0/2 a/+x b)", "by p"],
            ["keep off", "axis x", "at k", "side 1"], ["keep twelve", "axis y", "at   k", "side -1"]])
        self.assertEqual(feature_text(feature=ALL[10]), "keep off\naxis x\nat k\nside 1")

    def test_of_parts(self):
        part = part_of_all()
        rows = part_text(part).split("\n")
        self.assertEqual(rows[:10], [f"let {name} 1" for name in ["d", "e", "k", "low", "m", "n", "p", "q", "tall", "up"]])
        behind = "\n".join(feature_text(feature) for feature in ALL).split("\n")
        switched = [{"cut two": "cut two off", "keep off": "keep off off", "push nine": "push nine off"}.get(row, row) for row in behind]
        self.assertEqual(rows[10:], switched)
        self.assertEqual(part_text(part=Part()), "")
        self.assertEqual(part_text(made(z="1", b=" z + 2 ", a="1")), "let a 1\nlet b  z + 2 \nlet z 1")
        self.assertEqual(part_text(made(keep("half"))), "keep half\naxis x\nat 0\nside 1")

    def test_there_and_back(self):
        for feature in ALL:
            again = read_feature(feature_text(feature))
            self.assertEqual([again, type(again), feature_text(again)], [feature, type(feature), feature_text(feature)])
        part = part_of_all()
        again = read_part(part_text(part))
        self.assertEqual([again, again.steps, again.result, part_text(again), table(again)], [part, 0, part.result, part_text(part), table(part)])
        self.assertEqual([caught(again.undo), caught(again.redo)], [("NothingToUndo",), ("NothingToRedo",)])
        self.assertEqual([again.is_on(feature.name) for feature in ALL], [part.is_on(feature.name) for feature in ALL])
        self.assertEqual([read_part(text=""), read_part("").steps, read_part("let a 1").parameters.names], [Part(), 0, ("a",)])
        self.assertEqual(read_feature(text=feature_text(ALL[0])), ALL[0])

    def test_example_of_the_interface(self):
        part = read_part("let deep 2 * wide\nlet wide 3\nkeep half off\naxis x\nat wide\nside 1")
        self.assertEqual([part.result.results["deep"], part.is_on("half"), table(part), part_text(part).split("\n")[3]],
                         [('value', 6), False, ' 0 half     keep   off      0', 'axis x'])

    def test_what_is_read_is_a_part(self):
        part = read_part("let a 3\n" + feature_text(BASE) + "\nkeep half\naxis x\nat a\nside 1")
        self.assertEqual([part.result.marked.to_solid().volume, part.define("a", "2"), part.steps], [8, ["half"], 1])
        part.undo()
        self.assertEqual([part.steps, caught(part.undo), part["base"]], [0, ("NothingToUndo",), BASE])

    def test_random(self):
        source = random.Random(210)
        for _ in range(12):
            part = made(p="2", q=" 1")
            for _ in range(10):
                random_edit(source, part)
            again = read_part(part_text(part))
            self.assertEqual([again, again.result, part_text(again), table(again)], [part, part.result, part_text(part), table(part)])
            known = names(part.result.marked) or [LOST]
            for name in "abcde":
                feature = random_feature(source, name, known, ["a", "b"])
                self.assertEqual(read_feature(feature_text(feature)), feature)


class ParseTest(unittest.TestCase):
    def agree(self, text, counted=None):
        """Both readers stop at the line at which they must."""
        for call, wanted in [(read_part, first_wrong(text)), (read_feature, first_wrong(text, True))]:
            error = caught(call, text)
            found = error[1] if error and error[0] == "ParseError" else None
            self.assertEqual(found, wanted, (call, text))
            if counted is not None:
                counted[call.__name__, wanted] += 1

    def test_each_line_in_the_place_of_each(self):
        texts = [feature_text(feature) for feature in ALL] + ["let a 1\nlet b a\nkeep c\naxis x\nat 1\nside 1"]
        pool = sorted({row for text in texts for row in text.split("\n")}) + ["", " ", "add", "keep zz off", "let zz 1", "all ", "none", "outline a b c d e f"]
        counted = Counter()
        for text in texts:
            rows = text.split("\n")
            for place in range(len(rows) + 1):
                self.agree("\n".join(rows[:place]), counted)
                for row in pool:
                    self.agree("\n".join(rows[:place] + [row] + rows[place + 1:]), counted)
                    self.agree("\n".join(rows[:place] + [row] + rows[place:]))
        self.assertGreater(len(counted), 20)

    def test_two_features(self):
        source = random.Random(211)
        pool = [row for feature in ALL for row in feature_text(feature).split("\n")] + ["let p 1", "let q 1"]
        for _ in range(400):
            one, other = source.sample(ALL, 2)
            rows = ["let d 1"] + feature_text(one).split("\n") + feature_text(other).split("\n")
            place = source.randrange(len(rows))
            word = source.randrange(5)
            if word == 0:
                del rows[place]
            elif word == 1:
                rows.insert(place, source.choice(pool))
            elif word == 2:
                rows[place] = source.choice(pool)
            elif word == 3:
                rows = rows[:place]
            self.agree("\n".join(rows))

    def test_changes_at_each_place(self):
        texts = ["let ab 1+c\nlet b 2", "add a\noutline s e n w\ndimension s - 1\ndimension n s a\nflat z 1\nby 2\nshift 0\nshift 1",
                 "cut a off\noutline s e n w\non 1\npick face a 0/1 b\nall\nshift 0\nshift 1", "copy a\nsource b\naxis x\ndistance 1\ncount 2\naxis y\ndistance 1\ncount p",
                 "mirror a\nsource b\naxis x\nat 1", "push a\npick face a 0/1 b\nby 2", "keep a\naxis x\nat 1\nside -1"]
        counted = Counter()
        for text in texts:
            for changed in changed_texts(text):
                self.agree(changed, counted)
        self.assertGreater(counted["read_part", None], 100)

    def test_ends(self):
        text = "keep half\naxis x\nat 1\nside 1"
        for wrong, index in [(text + "\n", 4), ("\n" + text, 0), ("\n", 0), ("\n\n", 0), (" ", 0), ("let a 1\n", 1), ("let a 1\n\n" + text, 1),
                             ("keep half", 1), ("keep half\naxis x", 2), ("keep half\naxis x\nat 1", 3), ("add a\noutline a b c d\nflat x 1\nby 1\nshift 1", 5),
                             ("add a\noutline a b c d", 2), ("copy a\nsource b", 2), ("copy a\nsource b\naxis x\ndistance 1\ncount 1\naxis y", 6),
                             ("let a 1\nkeep b", 2), (text + "\nadd", 4), (text + "\nadd a", 5)]:
            self.assertEqual(caught(read_part, wrong), ("ParseError", index), wrong)
            self.agree(wrong)
        self.assertEqual([caught(read_feature, ""), caught(read_feature, text + "\n"), caught(read_feature, "add a"), caught(read_feature, text + "\n" + text)],
                         [("ParseError", 0), ("ParseError", 4), ("ParseError", 1), ("ParseError", 4)])
        self.assertEqual([caught(read_feature, "keep half off\naxis x\nat 1\nside 1"), caught(read_feature, "let a 1"), caught(read_feature, "let a 1\n" + text)],
                         [("ParseError", 0)] * 3)

    def test_any_value(self):
        for value in any_values() + numbers() + [[feature_text(BASE)], (feature_text(BASE),), BASE, Part(), feature_text(BASE).split("\n")]:
            self.assertEqual([caught(read_part, value), caught(read_feature, value)], [("ParseError", 0)] * 2)
        for value in strings():
            self.agree(value)

    def test_lines_that_cannot_stand(self):
        """Row by row what the document tells."""
        add = "add a\noutline s e n w"
        for text, index in [
                (add + "\noutline i j k s", 2), (add + "\noutline i j k", 2), ("add a\noutline s e n e", 1), ("add a\noutline s e n", 1), ("add a\noutline", 1),
                ("add a\noutline s e  n w", 1), ("add a\noutline s e n w ", 1), ("add a\noutline s e n W", 1), ("add a\noutline s e n abcdefghi", 1),
                (add + "\noutline a b c d f g h i j k l m", None), (add + "\noutline a b c d f g h i j k l m o p", 2),
                (add + "\noutline a b c d f g h i j k l m\noutline q r t u", 3), (add + "\ndimension s - 1\noutline a b c d", 3),
                (add + "\ndimension s s 1", 2), (add + "\ndimension s e 1", 2), (add + "\ndimension s x 1", 2), (add + "\ndimension x s 1", 2),
                (add + "\ndimension s n", 2), (add + "\ndimension s n ", 2), (add + "\ndimension s  1", 2), (add + "\ndimension  s 1", 2),
                (add + "\ndimension - s 1", 2), (add + "\ndimension s n 1 1", 2), (add + "\ndimension s n   1", None), ("add a\ndimension s n 1", 1),
                (add + "\ndimension s n 1" * 40, None), (add + "\ndimension s n 1" * 41, 42), ("add a\nflat x 1", 1),
                (add + "\nflat X 1", 2), (add + "\nflat  x 1", 2), (add + "\nflat x", 2), (add + "\nflat x ", 2), (add + "\nflat x y z", 2),
                (add + "\non 1\nflat x 1", 3), (add + "\non 1\npick a", 3), (add + "\non 1\npick  face a 0/1 b", 3), (add + "\npick face a 0/1 b", 2),
                (add + "\non 1\npick face a 0/1 b\nflat x 1", 4), (add + "\nflat x 1\nall", 3), (add + "\nflat x 1\nshift 1", 3), (add + "\nflat x 1\nto 1", 3),
                ("cut a\noutline s e n w\nflat x 1\nall ", 3), ("cut a\noutline s e n w\nflat x 1\nall 1", 3), ("cut a\noutline s e n w\nflat x 1\nall", None),
                (add + "\nflat x 1\nby 1\nshift 1\nkeep b", 5), (add + "\nflat x 1\nby 1\nshift 1\nshift 1\nshift 1", 6),
                ("copy a\nsource A", 1), ("copy a\nsource ", 1), ("copy a\nsource", 1), ("copy a\nsource b c", 1), ("copy a\nsource a", None),
                ("copy a\nsource b\naxis x\ncount 1", 3), ("copy a\nsource b\naxis x\ndistance 1\ndistance 1", 4), ("copy a\nsource b\naxis xy", 2),
                ("copy a\nsource b\naxis x\ndistance 1\ncount 1\naxis x\ndistance 1\ncount 1\naxis x", 8), ("mirror a\naxis x", 1), ("mirror a\nsource b\nat 1", 2),
                ("push a\nby 1", 1), ("push a\npick face a 0/1 b\nback 1", 2), ("push a\npick face a 0/1 b\nby", 2), ("push a\npick face a 0/1 b\nby a b", 2),
                ("keep a\naxis x\nat 1\nside 0", 3), ("keep a\naxis x\nat 1\nside +1", 3), ("keep a\naxis x\nat 1\nside  1", 3), ("keep a\naxis x\nat 1\nside -1 ", 3),
                ("keep a\naxis x\nby 1", 2), ("keep  a", 0), ("keep a ", 0), (" keep a", 0), ("keep", 0), ("keep ", 0), ("Keep a", 0), ("keep a on", 0), ("keep a  off", 0),
                ("keep a off ", 0), ("keep a off off", 0), ("hold a", 0), ("keep abcdefghi", 0), ("keep a1", 0), ("let", 0), ("let a", 0), ("let a ", 0), ("let  a 1", 0),
                ("let A 1", 0), ("let min 1", 0), ("let self 1", 0), ("let abcdefghi 1", 0), ("let a 01", 0), ("let b 1\nlet a 1", 1), ("let a 1\nlet a 2", 1),
                ("let a " + "1+" * 50 + "1", 0), ("let a " + "1+" * 49 + "11", None)]:
            # None tells that all lines can stand, though the last feature may not be complete.
            found = caught(read_part, text)
            if index is None:
                self.assertTrue(found is None or found[0] == "UnknownName" or found == ("ParseError", len(text.split("\n"))), text)
            else:
                self.assertEqual(found, ("ParseError", index), text)
            self.agree(text)

    def test_the_most(self):
        lets = "\n".join(f"let {a}{b} 1" for a in "abcdefgh" for b in "abcde")
        self.assertEqual(len(read_part(lets).parameters), 40)
        self.assertEqual(caught(read_part, lets + "\nlet zz 1"), ("ParseError", 40))
        keeps = "\n".join(f"keep {name}\naxis x\nat 1\nside 1" for name in "abcdefghijkl")
        self.assertEqual(len(read_part(lets + "\n" + keeps)), 12)
        self.assertEqual(caught(read_part, lets + "\n" + keeps + "\nkeep m\naxis x\nat 1\nside 1"), ("ParseError", 88))
        self.assertEqual(caught(read_part, keeps + "\nkeep m off"), ("ParseError", 48))
        self.assertEqual(caught(read_part, keeps + "\n"), ("ParseError", 48))
        self.assertEqual(caught(read_part, keeps.replace("keep d", "keep a")), ("ParseError", 12))
        self.assertEqual(caught(read_part, keeps.replace("keep d", "keep a off")), ("ParseError", 12))
        self.assertEqual(caught(read_part, keeps.replace("keep b", "let b 1")), ("ParseError", 4))

    def test_errors_behind(self):
        keep_a = "keep half\naxis x\nat {}\nside 1"
        for text, error in [
                ("let a b", ("UnknownName", "b")), ("let a 1\nlet b z + c", ("UnknownName", "z")), ("let a y\nlet b x", ("UnknownName", "y")),
                ("let a a", ("Ring", ("a",))), ("let a c\nlet b 1\nlet c a + b", ("Ring", ("a", "c"))), ("let a a\nlet b z", ("UnknownName", "z")),
                (keep_a.format("z + c"), ("UnknownName", "c")), ("let c 1\n" + keep_a.format("z + c"), ("UnknownName", "z")),
                ("let a a\n" + keep_a.format("z"), ("Ring", ("a",))), (keep_a.format("z") + "\n" + keep_a.format("b").replace("half", "other"), ("UnknownName", "z")),
                (keep_a.format("z").replace("half", "half off"), ("UnknownName", "z")), ("let a a\n" + keep_a.format("z") + "\n", ("ParseError", 5)),
                (keep_a.format("z") + "\nkeep half", ("ParseError", 4)), ("let a z\nlet b", ("ParseError", 1)),
                ("add a\noutline s e n w\ndimension s - y\nflat x z\nby x\nshift w\nshift v", ("UnknownName", "v")),
                ("copy a\nsource b\naxis x\ndistance m\ncount n\naxis y\ndistance l\ncount k", ("UnknownName", "k"))]:
            self.assertEqual(caught(read_part, text), error, text)
        # A feature alone needs no parameters.
        self.assertEqual(read_feature(keep_a.format("z")), keep("half", "z"))


class TableTest(unittest.TestCase):
    def test_statuses(self):
        plane = ("flat", "z", "0")
        wrong = [Add("sketch", BARE, plane, ("by", "1")), Keep("value", "x", "1 // 0", 1), Push("pick", LOST, "1"), Add("distance", BASE.arguments[1], plane, ("by", "0")),
                 Add("target", BASE.arguments[1], plane, ("to", EAST)), Copy("count", "base", ("x", "1", "0")), Push("range", TOP, str(LIMIT)),
                 Copy("lines", "base", ("x", "10", "16")), Mirror("source", "none", "x", "0")]
        part = made(BASE, *wrong, Push("upwards", TOP, "1000"), keep("half", "9"))
        part.switch("half", False)
        self.assertEqual(table(part=part).split("\n"), [
            " 0 base     add    ok       32", " 1 sketch   add    sketch   32", " 2 value    keep   value    32", " 3 pick     push   pick     32",
            " 4 distance add    distance 32", " 5 target   add    target   32", " 6 count    copy   count    32", " 7 range    push   range    32",
            " 8 lines    copy   lines    32", " 9 source   mirror source   32", "10 upwards  push   ok       16,032", "11 half     keep   off      16,032"])

    def test_volumes(self):
        self.assertEqual(table(Part()), "")
        great = Add("great", Sketch(["s", "e", "n", "w"], dimensions=[(side, None, text) for side, text in zip("senw", ["0", "1000", "1000", "0"])]),
                    ("flat", "z", "0"), ("by", str(LIMIT)))
        self.assertEqual(table(made(great)), " 0 great    add    ok       1" + ",000" * 12)
        small = Add("abcdefgh", BASE.arguments[1], ("flat", "z", "0"), ("by", "62"))
        self.assertEqual(table(made(small, keep("b", "3"))), " 0 abcdefgh add    ok       992\n 1 b        keep   ok       248")


if __name__ == "__main__":
    unittest.main()
