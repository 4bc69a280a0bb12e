"""[104]: texts of names and answers."""

import random
import re
import unittest

from solidnames.marked import block, nothing
from solidnames.names import names
from solidnames.nametexts import read_name, show_answer, show_name
from solidnames.picks import is_pick, resolve
from tests.cells import random_box
from tests.helpers import any_values, caught, numbers, strings
from tests.test_faces import random_made
from tests.test_names import bent
from tests.test_picks import CORNER, EDGE, FACE, OTHER, THIRD

ORIGIN = "[a-z0-9/+-]{1,400}"
PLACE = "(0|[1-9][0-9]{0,6})/([1-9][0-9]{0,6})"


def plain_read(text):
    """The pick with this text by expressions, or None."""
    found = re.fullmatch(f"face ({ORIGIN}) {PLACE}((?: {ORIGIN})+)", text)
    if found:
        pick = ("face", found[1], tuple(found[4].split(" ")[1:]), int(found[2]), int(found[3]))
        return pick if is_pick(pick) else None
    found = re.fullmatch(f"(edge|corner) {PLACE}((?: [(][^()]*[)])+)", text)
    if not found:
        return None
    faces = tuple(plain_read(one) for one in re.findall("[(]([^()]*)[)]", found[4]))
    if None in faces or list(faces) != sorted(set(faces)):
        return None
    place = (int(found[2]), int(found[3]))
    pick = ("edge", *faces, *place) if found[1] == "edge" else ("corner", faces, *place)
    return pick if is_pick(pick) else None


def changed_texts(text):
    """The text with a change at each place."""
    for place in range(len(text) + 1):
        yield text[:place] + text[place + 1:]
        for sign in " ()/09ab+-A\n,":
            yield text[:place] + sign + text[place:]
            yield text[:place] + sign + text[place + 1:]


class TextTest(unittest.TestCase):
    def check(self, text):
        pick = plain_read(text)
        if pick is None:
            error = caught(read_name, text)
            self.assertEqual((error[0], error[1] is text), ("InvalidText", True), text)
        else:
            self.assertEqual(read_name(text), pick)
            self.assertEqual(show_name(pick), text)
        return pick is not None

    def test_example_of_the_interface(self):
        self.assertEqual(read_name("edge 0/1 (face a/+y 0/1 a/-x) (face a/-x 0/1 a/+y)")[1], ('face', 'a/+y', ('a/-x',), 0, 1))

    def test_forms(self):
        self.assertEqual(show_name(FACE), "face a/+x 0/1 a/+y a/-y")
        self.assertEqual(show_name(name=EDGE), "edge 0/2 (face a/+x 0/1 a/+y a/-y) (face a/+y 1/3 a/+x)")
        self.assertEqual(show_name(CORNER), "corner 1/2 (face a/+x 0/1 a/+y a/-y) (face a/+y 1/3 a/+x) (face b/+y 0/2 a/+x b)")
        self.assertEqual([read_name(text=show_name(name)) for name in (FACE, OTHER, THIRD, EDGE, CORNER)], [FACE, OTHER, THIRD, EDGE, CORNER])
        # An origin may look like anything else.
        for name in [("face", "0/1", ("0/1", "face"), 0, 1), ("face", "face", ("edge",), 3, 10 ** 6), ("face", "+", ("-", "/"), 999999, 10 ** 6)]:
            self.assertEqual(read_name(show_name(name)), name)

    def test_there_and_back(self):
        source = random.Random(180)
        for _ in range(12):
            marked, _ = random_made(source, 5, 5, "ab")
            for name in names(marked):
                text = show_name(name)
                self.assertEqual([read_name(text), plain_read(text)], [name, name])
                words = [word for word in re.split("[ ()]+", text) if word]
                self.assertEqual(words[0], name[0])

    def test_changes_at_each_place(self):
        read = 0
        for name in (FACE, OTHER, THIRD, EDGE, CORNER, ("face", "a", ("a", "b"), 9, 10), ("face", "x", ("y",), 99, 100)):
            for text in changed_texts(show_name(name)):
                read += self.check(text)
        self.assertGreater(read, 500)

    def test_wrong_texts(self):
        good = show_name(FACE)
        one, other = f"({show_name(FACE)})", f"({show_name(OTHER)})"
        wrong = ["", " ", "\n", "face", "face ", "edge", "corner", "edge 0/1", "corner 0/1 ", f"corner 0/1 {one}", f"edge 0/1 {one}", f"edge 0/1 {one} {one}",
                 f"edge 0/1 {other} {one}", f"corner 0/1 {other} {one}", f"corner 0/1 {one} {one}", f"edge 0/1 {one} {other} ({show_name(THIRD)})",
                 f"edge 0/1{one} {other}", f"edge 0/1 {one}{other}", f"edge 0/1 {one}  {other}", f"edge 0/1 {one} {other} ", f" edge 0/1 {one} {other}",
                 f"edge 1/1 {one} {other}", f"edge 0/0 {one} {other}", f"edge 00/1 {one} {other}", f"edge 0/01 {one} {other}", f"edge -1/1 {one} {other}",
                 f"edge 0/1 ({one}) {other}", f"edge 0/1 {show_name(FACE)} {show_name(OTHER)}", f"Edge 0/1 {one} {other}", f"edge {one} {other} 0/1",
                 f"corner 0/1 {one} ({show_name(EDGE)})", f"edge 0/1 {one} (edge 0/1 {one} {other})", f"edge 0/1 {one} {other}\n", f"edge\n0/1 {one} {other}",
                 "face a 0/1", "face a 0/1 ", "face a 0/1 b a", "face a 0/1 a a", "face a 0/1 a  b", "face  0/1 a", "face a 1/1 a", "face a 2/1 a",
                 "face a 0/1000001 a", "face a 0/" + "9" * 5000 + " a", "face a 0 a", "face a 0/1/2 a", "face a /1 a", "face a 0/ a", "face A 0/1 a",
                 "face a 0/1 A", "face a 0/1 a_b", "face a 0/1 (a)", "face a +0/1 a", "face a 0/+1 a", "face a 0 /1 a", "face a\t0/1 a", "face " + "a" * 401 + " 0/1 a",
                 "face a 0/1 " + "a" * 401, good + " ", " " + good, good + "\n", good.upper(), good.replace(" ", "  "), "(" + good + ")", good + ")", "(" + good]
        for text in wrong:
            self.assertIsNone(plain_read(text), text)
            self.check(text)
        for text in ["face a 0/1 a", "face a 0/1000000 a", "face a 999999/1000000 a b", "face " + "a" * 400 + " 0/1 " + "b" * 400, f"edge 0/1 {one} {other}",
                     f"corner 7/9 {one} {other}"]:
            self.assertTrue(self.check(text))

    def test_any_value(self):
        for value in any_values() + numbers() + strings() + [FACE, [show_name(FACE)], (show_name(FACE),)]:
            error = caught(read_name, value)
            self.assertEqual((error[0], error[1] is value), ("InvalidText", True))
        for value in any_values() + numbers() + strings() + [show_name(FACE), list(FACE)]:
            error = caught(show_name, value)
            self.assertEqual((error[0], error[1] is value), ("InvalidPick", True))
        for name in (FACE, EDGE, CORNER):
            for value in bent(name):
                if is_pick(value):
                    self.assertEqual(read_name(show_name(value)), value)
                else:
                    error = caught(show_name, value)
                    self.assertEqual((error[0], error[1] is value), ("InvalidPick", True))


class AnswerTest(unittest.TestCase):
    def test_all_answers(self):
        self.assertEqual(show_answer(("same", FACE)), "same face a/+x 0/1 a/+y a/-y")
        self.assertEqual(show_answer(answer=("changed", EDGE)), "changed " + show_name(EDGE))
        self.assertEqual(show_answer(("unclear", (FACE, OTHER))), "unclear (face a/+x 0/1 a/+y a/-y) (face a/+y 1/3 a/+x)")
        self.assertEqual(show_answer(("unclear", (CORNER, CORNER[:2] + (1, 2)))).count("corner 1/2"), 2)
        self.assertEqual(show_answer(("lost",)), "lost")

    def test_of_solids(self):
        source = random.Random(181)
        seen = set()
        for _ in range(15):
            marked, _ = random_made(source, 5, 4, "ab")
            other = marked.cut(block(random_box(source, 0, 5), "t"))
            for name in names(marked):
                answer = resolve(other, name)
                text = show_answer(answer)
                word, _, rest = text.partition(" ")
                self.assertEqual(word, answer[0])
                if word in ("same", "changed"):
                    self.assertEqual(read_name(rest), answer[1])
                elif word == "unclear":
                    self.assertEqual(rest, " ".join(f"({show_name(one)})" for one in answer[1]))
                else:
                    self.assertEqual(text, "lost")
                seen.add(word)
        self.assertEqual(seen, {"same", "changed", "unclear", "lost"})
        self.assertEqual(show_answer(resolve(nothing(), FACE)), "lost")

    def test_long_origins(self):
        """An answer may have a name that is too long for a pick."""
        pad = block(((0, 0, 0), (2, 2, 2)), "a")
        for _ in range(60):
            pad = pad.within("abcdefgh")
        name = names(pad)[0]
        self.assertEqual(caught(show_name, name), ("InvalidPick", name))
        self.assertEqual(show_answer(("same", name)), f"same face {name[1]} 0/1 {' '.join(name[2])}")


if __name__ == "__main__":
    unittest.main()
