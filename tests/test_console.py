"""[124]: the console."""

import random
import unittest

from solidnames.compare import added
from solidnames.console import Console
from solidnames.features import Push
from solidnames.names import names
from solidnames.nametexts import show_answer, show_name
from solidnames.parts import Part
from solidnames.texts import feature_text, part_text, table
from tests.helpers import LIMIT, any_values, caught, numbers, strings
from tests.randomparts import random_feature
from tests.test_evaluation import BASE, EAST, LOST, TOP
from tests.test_parts import keep, made, told_of
from tests.test_picks import CORNER, EDGE, FACE
from tests.test_reading import ALL

BASE_LINES = feature_text(BASE).replace("\n", " ; ")
HALF = "keep half ; axis x ; at w ; side 1"


def console_of(*lines):
    console = Console()
    for line in lines:
        console(line)
    return console


def state_of(console):
    """The part, its steps, and what can be done again."""
    part = console.part

    def all_of(word):
        def walked(same):
            found = []
            while caught(getattr(same, word)) is None:
                found.append(told_of(same))
            return found
        return part.explore(walked)
    return [told_of(part), part.steps, all_of("undo"), all_of("redo")]


class LineTest(unittest.TestCase):
    def test_example_of_the_interface(self):
        console = Console()
        self.assertEqual([console("let w 3"), console("put 0 keep half ; axis x ; at w ; side 1"), console("try let w 4"), console("status half")],
                         ['-', 'half', '-', 'ok'])

    def test_part(self):
        console = Console()
        self.assertIsInstance(console.part, Part)
        self.assertEqual(console.part, Part())
        part = console.part
        console.run("let a 1")
        self.assertIs(console.part, part)
        self.assertEqual([part.parameters.names, part.define("b", "2"), console("value b"), part.undo(), caught(console, "value b")],
                         [("a",), [], "2", None, ("UnknownName", "b")])

    def test_edits(self):
        console = Console()
        self.assertEqual([console(line) for line in [
            "let w 3", "put 0 " + BASE_LINES, "put 1 " + HALF, "let w 2", "let w 1 + 1", "replace keep half ; axis x ; at w - 1 ; side 1",
            "move half 0", "move half 1", "off base", "off base", "on base", "off half", "put 0 keep a\naxis y\nat 1\nside -1", "take base", "let z 7", "drop z"]],
            ["-", "base", "half", "half", "-", "half", "half", "half", "base half", "-", "base half", "half", "a", "half", "-", "-"])
        self.assertEqual(console("text"), "let w 1 + 1\nkeep a\naxis y\nat 1\nside -1\nkeep half off\naxis x\nat w - 1\nside 1")
        self.assertEqual([console("undo") for _ in range(4)] + [console("redo")], ["ok"] * 5)
        self.assertEqual([feature.name for feature in console.part.features], ["a", "base", "half"])
        self.assertEqual(console.part.steps, 13)

    def test_the_part_is_that_of_the_edits(self):
        console, part = Console(), Part()
        source = random.Random(220)
        for name in "pq":
            self.assertEqual(console(f"let {name} 2"), " ".join(part.define(name, "2")) or "-")
        for name in "abcdef":
            known = names(part.result.marked) or [LOST]
            feature = random_feature(source, name, known, ["a", "b"])
            index = source.randrange(len(part) + 1)
            text = feature_text(feature)
            text = "".join(source.choice([" ; ", "\n"]) if sign == "\n" else sign for sign in text)
            self.assertEqual(console(f"put {index} {text}"), " ".join(part.put(index, feature)) or "-")
            self.assertEqual(console.part, part)
        for line, edit in [("let p 3", lambda: part.define("p", "3")), ("move c 0", lambda: part.move("c", 0)), ("off a", lambda: part.switch("a", False)),
                           ("take d", lambda: part.take("d")), ("on a", lambda: part.switch("a", True))]:
            self.assertEqual(console(line), " ".join(edit()) or "-")
            self.assertEqual([console.part, console("text"), console("table")], [part, part_text(part), table(part)])

    def test_questions(self):
        console = console_of("let w 3", "let big 2 * w", "let bad w // 0", "let far " + "9" * 31, "let low -w", "put 0 " + BASE_LINES, "put 1 " + HALF, "put 2 push up ; pick face none 0/1 none ; by 1",
                             "put 3 keep other ; axis y ; at 1 ; side 1", "off other")
        self.assertEqual([console("value " + name) for name in ["w", "big", "bad", "far", "low"]], ["3", "6", "zero", "range", "-3"])
        self.assertEqual([console("status " + name) for name in ["base", "half", "up", "other"]], ["ok", "ok", "pick", "off"])
        self.assertEqual([console("volume"), console("area")], ["8", "28"])
        self.assertEqual(console("table"), " 0 base     add    ok       32\n 1 half     keep   ok       8\n 2 up       push   pick     8\n 3 other    keep   off      8")
        faces = [name for name in names(console.part.result.marked) if name[0] == "face"]
        self.assertEqual(console("faces"), "\n".join(map(show_name, faces)))
        self.assertEqual(console("text").split("\n")[0], "let bad w // 0")
        self.assertEqual([Console()(line) for line in ["text", "table", "volume", "area", "faces"]], ["", "", "0", "0", "-"])
        console = console_of("let w " + str(LIMIT), "put 0 add a ; outline s e n w ; dimension s - -w ; dimension n - w ; dimension e - w ; dimension w - -w ; flat z w ; back w ; shift 0 ; shift 0")
        self.assertEqual([console("volume"), console("area")], ["4" + "0" * 90, "16" + "0" * 60])

    def test_resolve(self):
        console = console_of("put 0 " + BASE_LINES, "put 1 keep half ; axis x ; at 1 ; side 1")
        marked = console.part.result.marked
        for name in names(marked):
            self.assertEqual(console("resolve " + show_name(name)), "same " + show_name(name))
        for pick in (TOP, EAST, EDGE, CORNER, FACE, LOST):
            self.assertEqual(console("resolve " + show_name(pick)), show_answer(console.part.result.resolve(pick)))
        self.assertEqual(console("resolve " + show_name(LOST)), "lost")
        words = {console("resolve " + show_name(pick)).split(" ")[0] for pick in names(console.part.result.ahead("half"))}
        self.assertEqual(words, {"same", "changed", "lost"})
        console("put 1 cut slot ; outline s e n w ; dimension s - 0 ; dimension n - 4 ; dimension e - 3 ; dimension w - 2 ; flat z 0 ; all ; shift 0 ; shift 0")
        self.assertTrue(console("resolve " + show_name(TOP)).startswith(("unclear (face", "changed face")))

    def test_all_kinds_of_lines(self):
        for joint in (" ; ", "\n"):
            console = console_of(*[f"let {name} 1" for name in ["d", "e", "k", "low", "m", "n", "p", "q", "tall", "up"]])
            for index, feature in enumerate(ALL):
                text = feature_text(feature).replace("\n", joint)
                self.assertEqual(console(f"put {index} {text}"), feature.name)
                self.assertEqual(console(f"replace {text}"), "-")
            self.assertEqual(console.part.features, tuple(ALL))
            self.assertEqual(caught(console, "put 12 " + HALF.replace("w", "1")), ("TooMany", 12))


class WrongTest(unittest.TestCase):
    def console(self):
        return console_of("let w 3", "put 0 " + HALF, "let w 4", "undo")

    def check(self, line, error):
        """run and the call raise the error, also behind try, and nothing is changed."""
        console = self.console()
        before = state_of(console)
        for call in (console, console.run):
            found = caught(call, line)
            self.assertEqual(found, error)
            if error[0] == "CommandError":
                self.assertIs(found[1], line)
        if isinstance(line, str):
            trying = "try " + line
            found = caught(console, trying)
            self.assertEqual(found, ("CommandError", trying) if error[0] == "CommandError" else error)
        self.assertEqual(state_of(console), before)

    def test_commands(self):
        good = ["let w 3", "drop w", "put 0 " + HALF, "replace " + HALF, "take half", "move half 0", "on half", "off half", "undo", "redo", "text", "table",
                "value w", "status half", "volume", "area", "faces", "resolve " + show_name(TOP)]
        for line in good:
            error = caught(self.console(), line)
            self.assertNotEqual(error and error[0], "CommandError", line)
            words = line.split(" ")
            rest = words[0] in ("let", "put", "replace", "resolve")
            wrong = [" " + line, line.upper(), words[0].title() + line[len(words[0]):], words[0] + "s" + line[len(words[0]):], line.replace(" ", "\n", 1) if " " in line else line + "\n"]
            if len(words) > 1:
                wrong += [words[0], line.replace(" ", "  ", 1) if words[0] not in ("replace", "resolve") else words[0], words[0] + "\t" + line[len(words[0]) + 1:]]
            if not rest:
                wrong += [line + " ", line + " a", line + "  ", line + " 0", line + " ; "]
                wrong += [words[0] + " "] if len(words) > 1 else [line + "\n", line + "\n ", "\n" + line]
            for text in wrong:
                self.check(text, ("CommandError", text))

    def test_words(self):
        for text in ["", " ", "\n", ";", "let", "let ", "let w", "let  3", "let  w 3", "drop", "drop ", "drop  w", "drop w w", "put", "put ", "put 0", "put  0 " + HALF, "put a " + HALF,
                     "put " + HALF, "move half", "move half ", "move 0 half", "move half 0 ", "move half  0", "move  half 0", "move half 0 0", "take", "take ", "take half half", "on", "off ",
                     "on half half", "undo ", "undo 1", "redo redo", "text ", "table 1", "value", "value ", "value w w", "status", "status  half", "volume ", "area half", "faces ", "resolve",
                     "replace", "try", "try ", "try  undo", "try try undo", "try try", "try\nundo", "tryundo", "try undo ", "try let w", "trying undo", "help", "let\nw 3", "undo\n", "undo\nundo"]:
            self.check(text, ("CommandError", text))

    def test_any_value(self):
        for value in any_values() + numbers() + [["undo"], ("let w 3",), Console(), None]:
            self.check(value, ("CommandError", value))
        for value in strings():
            self.check(value, ("CommandError", value))

    def test_indexes(self):
        for word in ["-1", "+0", "00", "01", "0x1", "1.0", "a", "half", "0\n", "\n0", "1" * 32, "--1", "(1)", "0;", "1_0"]:
            for line in (f"put {word} {HALF}", f"move half {word}"):
                self.check(line, ("CommandError", line))
        for word in ["2", "10", "1" * 31]:
            self.check(f"put {word} {HALF}", ("InvalidIndex", int(word)))
            self.check(f"move half {word}", ("InvalidIndex", int(word)))
        self.check("move half 1", ("InvalidIndex", 1))

    def test_texts_that_are_empty_or_begin_with_a_space(self):
        self.check("let w ", ("ParseError", 0))
        self.check("let w  ", ("ParseError", 1))
        self.check("put 0 ", ("ParseError", 0))
        self.check("put 0  " + HALF, ("ParseError", 0))
        self.check("replace ", ("ParseError", 0))
        self.check("replace  " + HALF, ("ParseError", 0))
        self.check("resolve ", ("InvalidText", ""))
        self.check("resolve  " + show_name(TOP), ("InvalidText", " " + show_name(TOP)))
        self.check("resolve " + show_name(TOP) + " ", ("InvalidText", show_name(TOP) + " "))
        console = self.console()
        self.assertEqual([console("let w   5 "), console("value w"), console("text").split("\n")[0]], ["-", "5", "let w   5 "])

    def test_joints(self):
        good = "keep half{}axis x{}at w{}side 1"
        console = self.console()
        self.assertEqual([console("replace " + good.format(" ; ", "\n", " ; ")), console("replace " + good.format(" ; ", " ; ", " ;  ").replace(" ;  ", "  ; "))], ["-", "-"])
        for text, index in [(good.format(" ;", " ; ", " ; "), 0), (good.format("; ", " ; ", " ; "), 0), (good.format(";", "\n", "\n"), 0), (good.format("\n ; ", " ; ", " ; "), 1),
                            (good.format(" ; ; ", "\n", "\n"), 1), (good.format(" ; ", " ;  ", " ; "), 2), (good.format("\n\n", "\n", "\n"), 1),
                            (good.format("\n", "\n", "\n") + "\n", 4), (good.format(" ; ", " ; ", " ; ") + " ; ", 4), (" ; " + good.format("\n", "\n", "\n"), 0),
                            ("keep half", 1), ("keep half ; axis x ; at w", 3), ("keep half off ; axis x ; at w ; side 1", 0), ("let a 1", 0),
                            (good.format(" ; ", " ; ", " ; ") + " ; keep b", 4), (good.format("\n", "\n", " ;  "), 3)]:
            self.check("put 0 " + text, ("ParseError", index))
            self.check("replace " + text, ("ParseError", index))

    def test_order_of_errors(self):
        # First the command, then what is read, then the part.
        self.check("put x keep", ("CommandError", "put x keep"))
        self.check("put 99 keep half", ("ParseError", 1))
        self.check("put 99 " + HALF, ("InvalidIndex", 99))
        self.check("put 1 " + HALF, ("DuplicateName", "half"))
        self.check("put 1 " + HALF.replace("half", "b").replace("w", "z"), ("UnknownName", "z"))
        self.check("replace " + HALF.replace("half", "b").replace("at w", "at z"), ("UnknownName", "b"))
        self.check("replace " + HALF.replace("at w", "at z"), ("UnknownName", "z"))
        self.check("let W +", ("InvalidName", "W"))
        self.check("let a\nb 1", ("InvalidName", "a\nb"))
        self.check("let w +", ("ParseError", 0))
        self.check("let w 1 1", ("ParseError", 2))
        self.check("let w z", ("UnknownName", "z"))
        self.check("let w w", ("Ring", ("w",)))
        self.check("drop z", ("UnknownName", "z"))
        self.check("drop w", ("InUse", "half"))
        self.check("drop a\nb", ("UnknownName", "a\nb"))
        self.check("take z", ("UnknownName", "z"))
        self.check("move z 99", ("UnknownName", "z"))
        self.check("on z", ("UnknownName", "z"))
        self.check("off z", ("UnknownName", "z"))
        self.check("value z", ("UnknownName", "z"))
        self.check("value half", ("UnknownName", "half"))
        self.check("status w", ("UnknownName", "w"))
        self.check("resolve face", ("InvalidText", "face"))

    def test_nothing_to_undo(self):
        console = Console()
        self.assertEqual([caught(console, line) for line in ["undo", "redo", "try undo", "try redo"]], [("NothingToUndo",), ("NothingToRedo",)] * 2)


class TryTest(unittest.TestCase):
    def test_each_kind_of_line(self):
        lines = ["let w 1", "let v 1", "drop v", "put 0 " + HALF.replace("half", "b"), "replace " + HALF.replace("side 1", "side -1"), "take half", "move half 0", "on half", "off half", "undo",
                 "redo", "text", "table", "value w", "status half", "volume", "area", "faces", "resolve " + show_name(TOP),
                 "drop w", "let w +", "put 99 " + HALF, "take z", "resolve face", "value z"]
        for line in lines:
            console = console_of("let w 3", "put 0 " + BASE_LINES, "put 1 " + HALF, "let v 7", "let w 2", "undo", "let v 5", "undo")
            before = state_of(console)
            part = console.part
            other = console_of("let w 3", "put 0 " + BASE_LINES, "put 1 " + HALF, "let v 7", "let w 2", "undo", "let v 5", "undo")
            error = caught(other, line)
            for _ in range(2):
                if error is None:
                    other = console_of("let w 3", "put 0 " + BASE_LINES, "put 1 " + HALF, "let v 7", "let w 2", "undo", "let v 5", "undo")
                    self.assertEqual(console("try " + line), other(line))
                    self.assertEqual(console.run("try " + line), console(line="try " + line))
                else:
                    self.assertEqual(caught(console, "try " + line), error)
                self.assertEqual(state_of(console), before)
                self.assertIs(console.part, part)

    def test_by_name(self):
        console = Console()
        self.assertEqual([console.run(line="let w 1"), console(line="value w")], ["-", "1"])

    def test_an_edit_that_is_tried(self):
        console = console_of("let w 3", "put 0 " + BASE_LINES, "put 1 " + HALF)
        before = console.part.result.marked
        self.assertEqual([console("try let w 1"), console("volume"), console("try volume")], ["half", "8", "8"])
        self.assertEqual(added(before, console.part.result.marked).volume, 0)
        # The part may be edited by itself, too.
        console.part.put(2, Push("up", TOP, "1"))
        self.assertEqual([console("try undo"), console("status up"), console.part["half"]], ["ok", "ok", keep("half", "w")])
        self.assertEqual(console.part, made(BASE, keep("half", "w"), Push("up", TOP, "1"), w="3"))


if __name__ == "__main__":
    unittest.main()
