"""[110]: what differs between marked solids and between results."""

import random
import unittest
from collections import Counter

from solidnames.compare import added, fates, moves, news, statuses, taken
from solidnames.edges import corners, edges
from solidnames.faces import faces
from solidnames.features import Keep, Push
from solidnames.marked import block, nothing
from solidnames.picks import resolve
from solidnames.solids import Solid
from tests.cells import Surface, random_box, solid_of
from tests.helpers import LIMIT, any_values, caught, numbers, strings
from tests.plainfaces import Plain
from tests.test_evaluation import BASE, EAST, LOST, TOP
from tests.test_faces import random_made
from tests.test_pairs import box
from tests.test_parts import keep, made
from tests.test_picks import plain_meaning

LISTS = {"face": faces, "edge": edges, "corner": corners}


def changed(source, marked, surface):
    """The same with one more operation."""
    tool, word, name = random_box(source, 0, 6), source.choice(["joined", "cut", "cut"]), source.choice("abt")
    return getattr(marked, word)(block(tool, name)), getattr(surface, word)(Surface.of_box(tool, name))


class CellsTest(unittest.TestCase):
    def test_random(self):
        source = random.Random(190)
        for _ in range(60):
            marked, surface = random_made(source, 5, source.randrange(5), "ab")
            other, other_surface = random_made(source, 5, source.randrange(5), "ab")
            self.assertEqual(added(marked, other), solid_of(other_surface.cells - surface.cells))
            self.assertEqual(taken(marked, other), solid_of(surface.cells - other_surface.cells))
            self.assertEqual([added(other, marked), taken(other, marked)], [taken(marked, other), added(marked, other)])

    def test_nothing_between_equal_ones(self):
        pad = block(box(0, 0, 0, 2, 3, 4), "a").cut(block(box(1, 1, 1, 2, 2, 9), "b"))
        again = block(box(0, 0, 0, 2, 3, 4), "c").cut(block(box(1, 1, 1, 2, 2, 9), "d"))
        for one, other in [(pad, pad), (pad, again), (nothing(), nothing())]:
            self.assertEqual([added(one, other), taken(one, other)], [Solid(), Solid()])
            self.assertEqual([type(added(one, other)), bool(taken(one, other))], [Solid, False])
        self.assertEqual([added(nothing(), pad), taken(pad, nothing())], [pad.to_solid()] * 2)
        self.assertEqual([added(other=pad, one=nothing()), taken(other=nothing(), one=pad)], [pad.to_solid()] * 2)

    def test_great(self):
        great = block(box(-LIMIT, -LIMIT, -LIMIT, LIMIT, LIMIT, LIMIT), "a")
        less = great.cut(block(box(0, 0, 0, LIMIT, 1, 1), "b"))
        self.assertEqual([taken(great, less), added(less, great), added(great, less)], [Solid(box(0, 0, 0, LIMIT, 1, 1))] * 2 + [Solid()])

    def test_too_many_lines(self):
        def comb(many, start):
            made_of = nothing()
            for k in range(many):
                made_of = made_of.joined(block(box(start + 2 * k, 0, 0, start + 2 * k + 1, 1, 1), "t"))
            return made_of
        bar = block(box(0, 0, 0, 90, 1, 1), "b")
        self.assertEqual(taken(bar, comb(9, 1)).lines("x")[-1], 90)
        self.assertEqual(len(taken(bar, comb(9, 1)).lines("x")), 20)
        for call in (lambda: taken(bar, comb(10, 1)), lambda: added(comb(10, 1), bar)):
            self.assertEqual(caught(call), ("TooMany", 20))
        self.assertEqual(added(bar, comb(10, 1)), Solid())
        self.assertEqual(taken(comb(10, 0).joined(block(box(0, 0, 1, 19, 1, 2), "b")), bar).lines("x"), (0, 19))


class FateTest(unittest.TestCase):
    def test_random(self):
        source = random.Random(191)
        words = {kind: Counter() for kind in LISTS}
        for _ in range(14):
            marked, surface = random_made(source, 5, 4, "ab")
            other, other_surface = changed(source, marked, surface)
            plain = Plain(other_surface)
            for kind, call in LISTS.items():
                told = fates(marked, other, kind)
                self.assertEqual(list(told), [item.name for item in call(marked)])
                self.assertEqual(told, {name: plain_meaning(plain, name) for name in told})
                words[kind].update(fate[0] for fate in told.values())
                kept = {fate[1] for fate in told.values() if fate[0] in ("same", "changed")}
                self.assertEqual(news(marked, other, kind), tuple(item.name for item in call(other) if item.name not in kept))
        for kind in LISTS:
            self.assertEqual(set(words[kind]), {"same", "changed", "unclear", "lost"})

    def test_kinds(self):
        pad, cut = block(box(0, 0, 0, 4, 4, 4), "a"), block(box(0, 0, 0, 4, 4, 4), "a").cut(block(box(1, 1, 3, 2, 2, 4), "b"))
        self.assertEqual(fates(pad, cut), fates(pad, cut, "face"))
        self.assertEqual(fates(kind="edge", other=cut, one=pad), fates(pad, cut, "edge"))
        self.assertEqual([len(fates(pad, cut, kind)) for kind in LISTS], [6, 12, 8])
        self.assertEqual(news(pad, cut), news(pad, cut, "face"))
        self.assertEqual([name[1] for name in news(pad, cut)], ["b/+x", "b/+y", "b/-x", "b/-y", "b/-z"])
        self.assertEqual([len(news(pad, cut, kind)) for kind in LISTS], [5, 12, 8])
        self.assertEqual([type(news(pad, cut)), news(kind="corner", other=pad, one=pad), fates(nothing(), pad), news(pad, nothing())], [tuple, (), {}, ()])
        self.assertEqual(set(fates(pad, nothing(), "corner").values()), {("lost",)})
        self.assertEqual([len(news(nothing(), pad, kind)) for kind in LISTS], [6, 12, 8])
        told = fates(pad, cut)
        told.clear()
        self.assertEqual(len(fates(pad, cut)), 6)

    def test_invalid_kind(self):
        pad = block(box(0, 0, 0, 1, 1, 1), "a")
        for value in any_values() + strings() + numbers() + ["Face", "faces", "edge ", "corners", ("face",), ["edge"]]:
            for call in (fates, news):
                for one in (pad, nothing()):
                    error = caught(call, one, pad, value)
                    self.assertEqual((error[0], error[1] is value), ("InvalidKind", True))

    def test_long_origins(self):
        """The names of faces need not be picks."""
        pad = block(box(0, 0, 0, 2, 2, 2), "a")
        for _ in range(60):
            pad = pad.within("abcdefgh")
        for kind in LISTS:
            self.assertEqual({fate[0] for fate in fates(pad, pad, kind).values()}, {"same"})

    def test_moves(self):
        source = random.Random(192)
        counted = Counter()
        for _ in range(25):
            marked, surface = random_made(source, 5, 3, "ab")
            other = changed(source, marked, surface)[0] if source.random() < 0.5 else random_made(source, 5, 1, "ab")[0]
            other = other.moved(*[source.randrange(-3, 4) for _ in range(3)])
            told = moves(marked, other)
            places, other_places = [{face.name: face.at for face in faces(one)} for one in (marked, other)]
            same = [name for name in sorted(places) if resolve(other, name) == ("same", name)]
            self.assertEqual([list(told), list(told.values())], [same, [other_places[name] - places[name] for name in same]])
            counted.update(told.values())
        self.assertGreater(len(counted), 5)
        pad = block(box(0, 0, 0, 2, 2, 2), "a")
        self.assertEqual(sorted(moves(other=pad.moved(LIMIT - 2, 0, -3), one=pad).values()), [-3, -3, 0, 0, LIMIT - 2, LIMIT - 2])
        self.assertEqual([moves(pad, nothing()), moves(nothing(), pad)], [{}, {}])


class StatusesTest(unittest.TestCase):
    def test_of_variants(self):
        part = made(BASE, Push("up", TOP, "p"), keep("half", "1"), p="1")
        first = part.result
        self.assertEqual(statuses(first, first), [])
        self.assertEqual(statuses(first, part.variant(p=LIMIT)), [("up", ("ok",), ("failed", "range", None))])
        part.switch("half", False)
        self.assertEqual(statuses(first, part.result), [("half", ("ok",), ("off",))])
        self.assertEqual(statuses(other=first, one=part.result), [("half", ("off",), ("ok",))])

    def test_of_different_parts(self):
        one = made(BASE, Push("up", TOP, "1"), Push("east", EAST, "1"), keep("half", "1"), Push("bad", LOST, "1"))
        other = made(keep("new", "1"), keep("half", "2"), BASE, Keep("last", "x", "1", 1), Push("bad", EAST, "1"), keep("up", "1"))
        self.assertEqual(other.result.status("bad"), ("ok",))
        self.assertEqual(statuses(one.result, other.result), [
            ("new", None, ("ok",)), ("last", None, ("ok",)), ("bad", ("failed", "pick", ("lost",)), ("ok",)), ("east", ("ok",), None)])
        self.assertEqual(statuses(other.result, one.result)[0], ("east", None, ("ok",)))
        self.assertEqual([row[0] for row in statuses(other.result, one.result)], ["east", "bad", "new", "last"])
        empty = made().result
        self.assertEqual(statuses(empty, one.result), [(name, None, one.result.status(name)) for name in ["base", "up", "east", "half", "bad"]])
        self.assertEqual(statuses(one.result, empty), [(name, one.result.status(name), None) for name in ["base", "up", "east", "half", "bad"]])
        # The same failure with another detail is another status.
        first, second = made(Push("up", LOST, "0 // 0")), made(Push("up", LOST, "1"))
        self.assertEqual(statuses(first.result, second.result), [("up", ("failed", "value", "zero"), ("failed", "pick", ("lost",)))])
        self.assertEqual(statuses(made(Push("up", LOST, "1")).result, second.result), [])


if __name__ == "__main__":
    unittest.main()
