"""[21], [70] to [76]: what features give."""

import random
import unittest
from collections import Counter

from solidnames.evaluation import records_of
from solidnames.features import Add, Copy, Cut, Keep, Mirror, Push
from solidnames.marked import block, nothing
from solidnames.names import names
from solidnames.sketches import Sketch
from solidnames.solids import Solid
from tests.cells import surface_of
from tests.helpers import AXES, LIMIT
from tests.plainparts import plain_records
from tests.randomparts import random_feature, random_results
from tests.test_marked import agrees


def sketch_of(**texts):
    """A rectangle; wrong texts make it fail."""
    sides = {"s": "0", "e": "4", "n": "4", "w": "0", **texts}
    return Sketch(["s", "e", "n", "w"], dimensions=[(side, None, text) for side, text in sides.items()])


SQUARE = sketch_of()
BASE = Add("base", SQUARE, ("flat", "z", "0"), ("by", "2"))
SIDES_OF_BASE = ("base/side/e", "base/side/n", "base/side/s", "base/side/w")
TOP = ("face", "base/end", SIDES_OF_BASE, 0, 1)
BOTTOM = ("face", "base/start", SIDES_OF_BASE, 0, 1)
EAST = ("face", "base/side/e", ("base/end", "base/side/n", "base/side/s", "base/start"), 0, 1)
WEST = ("face", "base/side/w", ("base/end", "base/side/n", "base/side/s", "base/start"), 0, 1)
EDGE = ("edge", TOP, EAST, 0, 1)
LOST = ("face", "none", ("none",), 0, 1)


def evaluated(*features, **values):
    """The records of features that are all on; values are numbers, or words of failures."""
    results = {name: ("failed" if isinstance(value, str) else "value", value) for name, value in values.items()}
    return records_of(results, [(feature, True) for feature in features])


def statuses(*features, **values):
    return [record.told for record in evaluated(*features, **values)]


def last(*features, **values):
    """The status of the last feature."""
    return statuses(*features, **values)[-1]


class PlainCellsTest(unittest.TestCase):
    def test_random_parts(self):
        source = random.Random(70)
        seen = Counter()
        for _ in range(170):
            results, entries, known, sources = random_results(source), [], [], []
            for name in "abcdefg"[:source.randrange(2, 8)]:
                records = records_of(results, entries)
                if records and (not known or source.random() < 0.8):
                    known = names(records[-1].behind)
                feature = random_feature(source, name, known, sources or ["zz"])
                if feature.kind in ("add", "cut"):
                    sources.append(name)
                entries.append((feature, source.random() < 0.93))
            if source.random() < 0.5:
                results = random_results(source)
            self.compare(results, entries, seen)
        for kind in ("add", "cut", "copy", "mirror", "push", "keep"):
            self.assertGreater(seen[kind, "ok"], 10)
        for word in ("sketch", "pick", "distance", "target", "count", "source"):
            self.assertGreater(seen[word], 2)

    def compare(self, results, entries, seen):
        records, plain = records_of(results, entries), plain_records(results, entries)
        self.assertEqual(len(records), len(entries))
        marked = nothing()
        for record, (told, _, surface) in zip(records, plain):
            self.assertEqual(record.told, told)
            self.assertEqual(record.before, marked)
            marked = record.behind
            seen[record.feature.kind, told[0]] += 1
            seen[told[1] if len(told) > 1 else None] += 1
            solid = marked.to_solid()
            self.assertEqual([solid.volume, solid.area], [len(surface.cells), len(surface.origins)])
            for (cell, side), origin in surface.origins.items():
                self.assertEqual(marked.origin_of(cell, side), origin)

    def test_each_plane_and_extent(self):
        """Prisms in front and behind, on flat planes and on faces with both fronts, on all axes."""
        seen = Counter()
        for axis in AXES:
            base = Add("base", SQUARE, ("flat", axis, "1"), ("by", "3"))
            faces = [name for name in names(evaluated(base)[0].behind) if name[0] == "face"]
            for kind in (Add, Cut):
                for plane in [("flat", axis, "2"), *[("on", face, text) for face in faces for text in ("0", "1", "-1")]]:
                    extents = [("by", "2"), ("back", "1"), ("back", "2"), ("to", faces[0]), ("to", faces[3])]
                    for extent in extents + ([("all",)] if kind == Cut else []):
                        tool = kind("tool", sketch_of(s="1", e="2", w="-1", n="3"), plane, extent, ("1", "-1"))
                        self.compare({}, [(base, True), (tool, True)], seen)
        self.assertGreater(seen["add", "ok"], 100)
        self.assertGreater(seen["cut", "ok"], 100)

    def test_pushes_of_each_face(self):
        """Outward, inward, through the solid, into other material; over borders of all kinds."""
        seen = Counter()
        source = random.Random(71)
        post = Add("post", sketch_of(s="1", e="3", n="3", w="1"), ("on", TOP, "0"), ("by", "2"))
        slot = Cut("slot", sketch_of(s="2", e="6", n="3", w="-2"), ("flat", "z", "1"), ("by", "1"))
        near = Add("near", sketch_of(e="6", w="4"), ("flat", "z", "0"), ("by", "2"))
        far = Add("far", sketch_of(e="3", w="-2"), ("flat", "z", "4"), ("by", "1"))
        for features in [(BASE,), (BASE, post), (BASE, slot), (BASE, near), (BASE, post, slot), (BASE, near, far), (BASE, near, post, slot)]:
            faces = [name for name in names(evaluated(*features)[-1].behind) if name[0] == "face"]
            for face in faces:
                value = source.choice([1, 3, 5, -1, -2, -9])
                for number in (value, -value, 0):
                    self.compare({}, [(feature, True) for feature in (*features, Push("push", face, str(number)))], seen)
        self.assertEqual(seen["push", "ok"], sum(seen[key] for key in seen if isinstance(key, tuple) and key[0] == "push"))

    def test_keeps(self):
        seen = Counter()
        for axis in AXES:
            for at in range(-1, 6):
                for side in (1, -1):
                    slot = Cut("slot", sketch_of(s="1", n="3", w="1"), ("flat", "z", "1"), ("by", "5"))
                    self.compare({}, [(BASE, True), (slot, True), (Keep("half", axis, str(at), side), True)], seen)


class OriginTest(unittest.TestCase):
    def test_add(self):
        marked = evaluated(BASE)[0].behind
        self.assertEqual([marked.origin_of((0, 0, 0), side) for side in ("-x", "-y", "-z")], ["base/side/w", "base/side/s", "base/start"])
        self.assertEqual([marked.origin_of((3, 3, 1), side) for side in ("+x", "+y", "+z")], ["base/side/e", "base/side/n", "base/end"])
        back = evaluated(Add("base", SQUARE, ("flat", "z", "0"), ("back", "2")))[0].behind
        self.assertEqual([back.origin_of((0, 0, -1), "+z"), back.origin_of((0, 0, -2), "-z")], ["base/start", "base/end"])

    def test_cut_by_all_has_no_ends(self):
        hole = Cut("hole", sketch_of(s="1", e="2", n="2", w="1"), ("flat", "z", "50"), ("all",))
        marked = evaluated(BASE, hole)[1].behind
        self.assertEqual([origin for origin in marked.origins if origin.startswith("hole")],
                         ["hole/side/e", "hole/side/n", "hole/side/s", "hole/side/w"])
        self.assertEqual([marked.to_solid().volume, marked.origin_of((0, 1, 0), "+x")], [30, "hole/side/w"])
        shut = Add("shut", SQUARE, ("flat", "z", "-3"), ("by", "20"))
        self.assertEqual(evaluated(BASE, hole, shut)[2].behind.to_solid(), Solid(((0, 0, -3), (4, 4, 17))))

    def test_copies(self):
        peg = Add("peg", sketch_of(e="1", n="1"), ("flat", "z", "2"), ("by", "1"))
        records = evaluated(BASE, peg, Copy("row", "peg", ("x", "2", "2")), Copy("net", "peg", ("x", "2", "2"), ("y", "3", "2")))
        self.assertEqual([record.told for record in records], [("ok",)] * 4)
        one, two = records[2].behind, records[3].behind
        self.assertEqual([one.origin_of((2, 0, 2), "+z"), one.origin_of((2, 0, 2), "-x")], ["row/1/peg/end", "row/1/peg/side/w"])
        self.assertEqual(two.origin_of((2, 0, 2), "+z"), "row/1/peg/end")
        self.assertEqual([two.origin_of((0, 3, 2), "+z"), two.origin_of((2, 3, 2), "+x")], ["net/0/1/peg/end", "net/1/1/peg/side/e"])
        self.assertEqual(evaluated(BASE, peg, Copy("row", "peg", ("x", "7", "1")))[2].behind, records[1].behind)

    def test_copies_one_after_the_other(self):
        """Where they overlap, the one with the lesser (i, j) was there first; distances below the size, 0 and negative ones."""
        peg = Add("peg", SQUARE, ("flat", "z", "0"), ("by", "1"))
        for distance, origins in [("1", "row/1/peg/end row/2/peg/end"), ("-1", "row/1/peg/end row/2/peg/end"), ("0", ""), ("9", None)]:
            marked = evaluated(peg, Copy("row", "peg", ("x", distance, "3")))[1].behind
            if origins is not None:
                self.assertEqual([one for one in marked.origins if one.startswith("row") and one.endswith("end")], origins.split())
            else:
                self.assertEqual(len(marked.to_solid().bodies()), 3)
        net = evaluated(peg, Copy("net", "peg", ("x", "4", "2"), ("x", "4", "3")))[1].behind
        self.assertEqual([net.origin_of((x, 0, 0), "+z") for x in (0, 4, 8, 12)],
                         ["peg/end", "net/0/1/peg/end", "net/0/2/peg/end", "net/1/2/peg/end"])

    def test_copies_of_a_cut_by_all(self):
        hole = Cut("hole", sketch_of(e="1", n="1"), ("flat", "z", "0"), ("all",))
        records = evaluated(BASE, hole, Copy("row", "hole", ("x", "3", "2"), ("z", "100", "2")))
        self.assertEqual([record.told for record in records], [("ok",)] * 3)
        self.assertEqual(records[2].behind.to_solid().volume, 28)
        # The copy moved along z alone is in the place of the hole.
        self.assertEqual(records[2].behind.origin_of((2, 0, 0), "+x"), "row/1/0/hole/side/w")
        again = evaluated(BASE, hole, Copy("row", "hole", ("z", str(10 ** 30), "2")))
        self.assertEqual([again[2].told, again[2].behind], [("ok",), again[1].behind])

    def test_mirror(self):
        peg = Add("peg", sketch_of(w="1", e="3", n="1"), ("flat", "z", "2"), ("by", "1"))
        marked = evaluated(BASE, peg, Mirror("twin", "peg", "x", "0"))[2].behind
        self.assertEqual([marked.origin_of((-3, 0, 2), "-x"), marked.origin_of((-2, 0, 2), "+x"), marked.origin_of((-2, 0, 2), "+z")],
                         ["twin/peg/side/e", "twin/peg/side/w", "twin/peg/end"])
        hole = Cut("hole", sketch_of(e="1", n="1"), ("flat", "z", "0"), ("all",))
        made = evaluated(BASE, hole, Mirror("twin", "hole", "x", "2"), Mirror("same", "hole", "z", "77"))
        self.assertEqual(made[2].behind.origin_of((2, 0, 0), "+x"), "twin/hole/side/e")
        self.assertEqual(made[3].behind, made[2].behind)

    def test_push(self):
        up = evaluated(BASE, Push("push", TOP, "3"))[1].behind
        self.assertEqual(up, evaluated(Add("base", SQUARE, ("flat", "z", "0"), ("by", "5")))[0].behind)
        down = evaluated(BASE, Push("push", TOP, "-1"))[1].behind
        self.assertEqual(down, evaluated(Add("base", SQUARE, ("flat", "z", "0"), ("by", "1")))[0].behind)
        self.assertEqual(evaluated(BASE, Push("push", TOP, "0"))[1].behind, evaluated(BASE)[0].behind)
        self.assertEqual(evaluated(BASE, Push("push", BOTTOM, "-2"))[1].behind, nothing())

    def test_walls_of_a_push(self):
        """Pocket, post and seam: the kind of the border tells whether a wall is new."""
        pocket = Cut("pocket", sketch_of(s="1", e="2", n="2", w="1"), ("flat", "z", "2"), ("back", "1"))
        floor = ("face", "pocket/end", tuple(f"pocket/side/{side}" for side in "ensw"), 0, 1)
        deeper = evaluated(BASE, pocket, Push("push", floor, "-1"))[2]
        self.assertEqual([deeper.told, deeper.behind.origin_of((0, 1, 0), "+x")], [("ok",), "pocket/side/w"])
        higher = evaluated(BASE, pocket, Push("push", floor, "2"))[2].behind
        self.assertEqual([higher.origin_of((1, 1, 2), side) for side in ("-x", "+y", "+z")],
                         ["push/wall/pocket/side/w", "push/wall/pocket/side/n", "pocket/end"])
        near = Add("near", sketch_of(e="6", w="4"), ("flat", "z", "0"), ("by", "2"))
        seamed = [name for name in names(evaluated(BASE, near)[1].behind) if name[0] == "face" and name[1] == "base/end"][0]
        for value, cell, side in [("1", (3, 0, 2), "+x"), ("-1", (4, 0, 1), "-x")]:
            marked = evaluated(BASE, near, Push("push", seamed, value))[2].behind
            self.assertEqual(marked.origin_of(cell, side), "push/wall/near/end")
            self.assertEqual(marked.origin_of((0, 0, 2 if value == "1" else 0), "-x"), "base/side/w")

    def test_keep(self):
        marked = evaluated(BASE, Keep("half", "x", "3", 1))[1].behind
        self.assertEqual([marked.to_solid().bounds, marked.origin_of((3, 0, 0), "-x")], [((3, 0, 0), (4, 4, 2)), "half/cut"])
        marked = evaluated(BASE, Keep("half", "x", "3", -1))[1].behind
        self.assertEqual([marked.to_solid().bounds, marked.origin_of((2, 0, 0), "+x")], [((0, 0, 0), (3, 4, 2)), "half/cut"])
        for axis, at, side in [("x", "0", 1), ("x", "-5", 1), ("z", "2", -1), ("y", str(LIMIT), -1)]:
            self.assertEqual(evaluated(BASE, Keep("half", axis, at, side))[1].behind, evaluated(BASE)[0].behind)
        for axis, at, side in [("x", "0", -1), ("z", "2", 1), ("y", str(-LIMIT), -1)]:
            self.assertEqual(evaluated(BASE, Keep("half", axis, at, side))[1].behind, nothing())


class StatusTest(unittest.TestCase):
    """[76]"""

    def test_off(self):
        results = {"k": ("failed", "zero")}
        for feature in [Add("a", sketch_of(e="k"), ("on", LOST, "k"), ("to", EDGE)), Copy("a", "b", ("x", "k", "k")), Keep("a", "x", "k", 1),
                        Mirror("a", "b", "x", "k"), Push("a", LOST, "k"), Cut("a", sketch_of(e="k"), ("flat", "x", "k"), ("all",))]:
            records = records_of(results, [(BASE, True), (feature, False)])
            self.assertEqual([records[1].told, records[1].behind], [("off",), records[0].behind])

    def test_source(self):
        copies = lambda source: [Copy("c", source, ("x", "k", "0")), Mirror("c", source, "x", "k")]
        hole = Cut("hole", SQUARE, ("flat", "z", "0"), ("by", "1"))
        bad = Add("bad", SQUARE, ("flat", "z", "0"), ("by", "0"))
        for source in ("none", "push", "keep", "copy", "twin", "bad", "c"):
            for feature in copies(source):
                ahead = [BASE, hole, bad, Push("push", TOP, "1"), Keep("keep", "x", "1", 1), Copy("copy", "base", ("x", "1", "2")),
                         Mirror("twin", "base", "x", "0")]
                self.assertEqual(last(*ahead, feature, k="zero"), ("failed", "source", source))
        for feature in copies("base"):
            # It must be ahead, and on.
            self.assertEqual(statuses(feature, BASE, k="zero")[0], ("failed", "source", "base"))
            records = records_of({"k": ("value", 1)}, [(BASE, False), (feature, True)])
            self.assertEqual(records[1].told, ("failed", "source", "base"))
            self.assertEqual(last(BASE, feature, k="zero"), ("failed", "value", "zero"))
        self.assertEqual(statuses(BASE, hole, Mirror("c", "hole", "x", "1"))[2], ("ok",))

    def test_sketch(self):
        plane, extent = ("on", LOST, "k"), ("by", "k")
        cases = [(sketch_of(n="1 // 0"), ("formula", 2, "zero")), (sketch_of(w="k"), ("formula", 3, "range")),
                 (sketch_of(n="0"), ("crossing", "e", "e")), (Sketch(["a", "b", "c", "d"]), ("loose", ("a", "b", "c", "d"))),
                 (Sketch(["a", "b", "c", "d"], dimensions=[("a", None, "1"), ("a", None, "2")]), ("clash", (0,), 1))]
        for sketch, status in cases:
            for kind in (Add, Cut):
                self.assertEqual(last(kind("a", sketch, plane, extent), k="range"), ("failed", "sketch", status))
        self.assertEqual(last(Add("a", SQUARE, plane, extent), k="range"), ("failed", "value", "range"))
        far = sketch_of(e=str(10 ** 30), w=f"{10 ** 30} * -1")
        self.assertEqual(last(Add("a", far, ("flat", "x", "0"), ("by", "1"))), ("ok",))

    def test_value(self):
        on, flat = ("on", LOST, "a"), ("flat", "x", "a")
        for kind, extent in [(Add, ("by", "b")), (Cut, ("back", "b"))]:
            for plane in (on, flat):
                words = [last(kind("x", SQUARE, plane, extent, ("c", "d")), **{name: "zero" if name == first else "range" if name > first else 0
                                                                             for name in "abcd"}) for first in "abcd"]
                self.assertEqual(words, [("failed", "value", "zero")] * 4)
        for extent in [("to", LOST), ("all",)]:
            self.assertEqual(last(Cut("x", SQUARE, flat, extent, ("c", "d")), a=1, c="zero", d="range"), ("failed", "value", "zero"))
            self.assertEqual(last(Cut("x", SQUARE, flat, extent, ("c", "d")), a="zero", c="range", d="range"), ("failed", "value", "zero"))
        for first in "abcd":
            values = {name: "zero" if name == first else "range" if name > first else 0 for name in "abcd"}
            self.assertEqual(last(BASE, Copy("x", "base", ("x", "a", "b"), ("y", "c", "d")), **values), ("failed", "value", "zero"))
        self.assertEqual(last(BASE, Push("x", LOST, "a"), a="range"), ("failed", "value", "range"))
        self.assertEqual(last(BASE, Keep("x", "x", "a", 1), a="zero"), ("failed", "value", "zero"))
        self.assertEqual(last(BASE, Keep("x", "x", f"{LIMIT} + 1", 1)), ("failed", "value", "range"))

    def test_pick(self):
        twins = Add("base", Sketch(["s", "e", "n", "w"], ["a", "b", "c", "d"], dimensions=[
            (side, None, text) for side, text in zip("senwabcd", ["0", "1", "1", "0", "0", "4", "1", "3"])]), ("flat", "z", "0"), ("by", "2"))
        vague = ("face", "base/end", ("none",), 0, 1)
        tops = tuple(name for name in names(evaluated(twins)[0].behind) if name[0] == "face" and name[1] == "base/end")
        self.assertEqual(last(twins, Push("a", vague, "1")), ("failed", "pick", ("unclear", tops)))
        for pick, answer in [(LOST, ("lost",)), (EDGE, ("lost",)), (("corner", (TOP, EAST), 0, 1), ("lost",))]:
            self.assertEqual(last(BASE, Push("a", pick, "1")), ("failed", "pick", answer))
            self.assertEqual(last(BASE, Push("a", pick, f"{LIMIT}")), ("failed", "pick", answer))
            for kind in (Add, Cut):
                for plane, extent in [(("on", pick, "0"), ("by", "0")), (("flat", "x", "0"), ("to", pick)), (("on", pick, "0"), ("to", vague)),
                                      (("on", TOP, "0"), ("to", pick))]:
                    self.assertEqual(last(BASE, kind("a", SQUARE, plane, extent)), ("failed", "pick", answer))
        self.assertEqual(last(twins, Add("a", SQUARE, ("on", vague, "0"), ("to", LOST))), ("failed", "pick", ("unclear", tops)))
        self.assertEqual(last(BASE, Push("a", vague, "1")), ("ok",))

    def test_distance(self):
        for word in ("by", "back"):
            for kind in (Add, Cut):
                for value in (0, -1, -LIMIT):
                    far = ("flat", "x", "k" if value else f"{LIMIT}")
                    self.assertEqual(last(BASE, kind("a", SQUARE, far, (word, "k")), k=value), ("failed", "distance", value))
                    self.assertEqual(last(BASE, kind("a", SQUARE, ("on", TOP, f"{LIMIT}"), (word, "k")), k=value), ("failed", "distance", value))
                self.assertEqual(last(BASE, kind("a", SQUARE, ("flat", "x", "0"), (word, "1"))), ("ok",))

    def test_target(self):
        for kind in (Add, Cut):
            for plane, extent in [(("flat", "x", "0"), TOP), (("flat", "z", "2"), TOP), (("flat", "z", "0"), BOTTOM), (("on", TOP, "0"), TOP),
                                  (("on", BOTTOM, "-2"), TOP), (("on", EAST, "-4"), WEST), (("on", EAST, "0"), TOP),
                                  (("flat", "y", f"{LIMIT}"), EAST), (("on", TOP, f"{LIMIT}"), EAST)]:
                self.assertEqual(last(BASE, kind("a", SQUARE, plane, ("to", extent))), ("failed", "target", None))
            for plane, extent in [(("flat", "z", "3"), TOP), (("flat", "z", "0"), TOP), (("on", TOP, "1"), TOP), (("on", BOTTOM, "0"), TOP)]:
                self.assertEqual(last(BASE, kind("a", SQUARE, plane, ("to", extent))), ("ok",))

    def test_count(self):
        for count, other, detail in [(0, 1, 0), (17, 0, 17), (-1, 17, -1), (1, 0, 0), (16, 17, 17), (2, 9, 18), (16, 16, 256), (4, 5, 20),
                                     (LIMIT, 1, LIMIT)]:
            self.assertEqual(last(BASE, Copy("c", "base", ("x", "k", "a"), ("y", "k", "b")), k=LIMIT, a=count, b=other),
                             ("failed", "count", detail))
        for count in (0, 17, -5):
            self.assertEqual(last(BASE, Copy("c", "base", ("x", "k", "a")), k=LIMIT, a=count), ("failed", "count", count))
        for count, other in [(1, 1), (16, 1), (1, 16), (4, 4), (2, 8), (5, 3)]:
            self.assertEqual(last(BASE, Copy("c", "base", ("x", "0", "a"), ("y", "0", "b")), a=count, b=other), ("ok",))
        self.assertEqual(last(BASE, Copy("c", "base", ("x", "1", "16"))), ("ok",))

    def test_range_of_planes_and_tools(self):
        top = str(LIMIT)
        for plane, extent, told in [
                (("flat", "z", top), ("by", "1"), "range"), (("flat", "z", top), ("back", "1"), "ok"), (("flat", "z", f"-{top}"), ("back", "1"), "range"),
                (("flat", "z", f"{top} - 1"), ("by", "1"), "ok"), (("flat", "z", f"-{top}"), ("by", top), "ok"), (("flat", "z", "1"), ("by", top), "range"),
                (("flat", "z", "0"), ("by", top), "ok"), (("on", TOP, f"{top} - 2"), ("back", "1"), "ok"), (("on", TOP, f"{top} - 1"), ("back", "5"), "range"),
                (("on", BOTTOM, top), ("back", "1"), "ok"), (("on", BOTTOM, top), ("by", "1"), "range"), (("on", TOP, f"{top} - 1"), ("to", BOTTOM), "range"),
                (("on", TOP, f"{top} - 2"), ("to", BOTTOM), "ok")]:
            wanted = ("ok",) if told == "ok" else ("failed", "range", None)
            for kind in (Add, Cut):
                self.assertEqual(last(BASE, kind("a", sketch_of(s="9", n="10"), plane, extent)), wanted, (plane, extent))
        for text, told in [(top, ("ok",)), (f"-{top}", ("ok",))]:
            self.assertEqual(last(BASE, Cut("a", SQUARE, ("flat", "z", text), ("all",))), told)
        self.assertEqual(last(BASE, Cut("a", SQUARE, ("on", TOP, f"{top} - 2"), ("all",))), ("ok",))
        self.assertEqual(last(BASE, Cut("a", SQUARE, ("on", TOP, f"{top} - 1"), ("all",))), ("failed", "range", None))

    def test_range_of_shifts(self):
        for kind, extent in [(Add, ("by", "1")), (Cut, ("by", "1")), (Cut, ("all",))]:
            for shift, told in [((f"{LIMIT} - 4", "0"), "ok"), ((f"{LIMIT} - 3", "0"), "range"), (("0", f"-{LIMIT}"), "ok"),
                                (("0", f"{LIMIT} - 4"), "ok"), (("0", f"{LIMIT} - 3"), "range")]:
                wanted = ("ok",) if told == "ok" else ("failed", "range", None)
                self.assertEqual(last(kind("a", SQUARE, ("flat", "y", "0"), extent, shift)), wanted)
            self.assertEqual(last(kind("a", sketch_of(s="-1"), ("flat", "y", "0"), extent, ("0", f"-{LIMIT}"))), ("failed", "range", None))

    def test_range_of_copies_and_mirrors(self):
        for steps, told in [([("z", f"{LIMIT} - 2", "2")], "ok"), ([("z", f"{LIMIT} - 1", "2")], "range"), ([("z", f"-{LIMIT}", "2")], "ok"),
                            ([("z", f"{LIMIT // 2}", "4")], "range"), ([("z", f"{LIMIT}", "1")], "ok"), ([("x", f"{LIMIT} - 4", "2")], "ok"),
                            ([("x", f"{LIMIT} - 3", "2")], "range"), ([("x", "1", "2"), ("x", f"{LIMIT} - 4", "2")], "range"),
                            ([("x", "-1", "2"), ("x", f"{LIMIT} - 4", "2")], "ok"), ([("y", "1", "2"), ("x", f"{LIMIT} - 3", "2")], "range")]:
            wanted = ("ok",) if told == "ok" else ("failed", "range", None)
            self.assertEqual(last(BASE, Copy("c", "base", *steps)), wanted, steps)
        half = LIMIT // 2
        for axis, at, told in [("z", half + 1, "range"), ("z", half, "ok"), ("z", -half + 1, "ok"), ("z", -half, "range"), ("x", half, "ok"),
                               ("x", -half + 2, "ok"), ("x", -half + 1, "range")]:
            wanted = ("ok",) if told == "ok" else ("failed", "range", None)
            self.assertEqual(last(BASE, Mirror("m", "base", axis, str(at))), wanted, (axis, at))
        hole = Cut("hole", SQUARE, ("flat", "z", "0"), ("all",))
        self.assertEqual(last(BASE, hole, Mirror("m", "hole", "z", str(LIMIT))), ("ok",))
        self.assertEqual(last(BASE, hole, Mirror("m", "hole", "x", str(LIMIT))), ("failed", "range", None))

    def test_range_of_pushes(self):
        for pick, value, told in [(TOP, LIMIT - 2, "ok"), (TOP, LIMIT - 1, "range"), (BOTTOM, LIMIT, "ok"), (TOP, -LIMIT, "ok"), (WEST, LIMIT, "ok"),
                                  (EAST, LIMIT - 4, "ok"), (EAST, LIMIT - 3, "range")]:
            wanted = ("ok",) if told == "ok" else ("failed", "range", None)
            self.assertEqual(last(BASE, Push("p", pick, str(value))), wanted, (pick, value))
        high = Add("base", SQUARE, ("flat", "z", "10"), ("by", "2"))
        self.assertEqual(last(high, Push("p", BOTTOM, str(LIMIT))), ("ok",))
        low = Add("base", SQUARE, ("flat", "z", "-1"), ("by", "2"))
        self.assertEqual(last(low, Push("p", BOTTOM, str(LIMIT))), ("failed", "range", None))
        self.assertEqual(last(low, Push("p", TOP, f"-{LIMIT}")), ("ok",))

    def test_lines(self):
        peg = Add("peg", sketch_of(e="1"), ("flat", "z", "0"), ("by", "1"))
        self.assertEqual(last(peg, Copy("row", "peg", ("x", "2", "10"))), ("ok",))
        self.assertEqual(last(peg, Copy("row", "peg", ("x", "2", "11"))), ("failed", "lines", None))
        row = Copy("row", "peg", ("x", "2", "10"))
        bar = sketch_of(s="9", n="10", e="3", w="1")
        self.assertEqual(last(peg, row, Add("bar", bar, ("flat", "z", "0"), ("by", "1"))), ("ok",))
        self.assertEqual(last(peg, row, Add("bar", bar, ("flat", "z", "0"), ("by", "1"), ("99", "0"))), ("failed", "lines", None))
        self.assertEqual(last(peg, row, Mirror("bar", "peg", "x", "100")), ("failed", "lines", None))
        # Lines between origins count, and the solid behind one of the copies alone, too.
        wall = Add("wall", sketch_of(e="1"), ("flat", "z", "0"), ("by", "1"))
        self.assertEqual(last(wall, Copy("row", "wall", ("x", "1", "16"))), ("ok",))
        copies = Copy("more", "wall", ("x", "-1", "4"))
        self.assertEqual(last(wall, Copy("row", "wall", ("x", "1", "16")), copies), ("ok",))
        self.assertEqual(last(wall, Copy("row", "wall", ("x", "1", "16")), Copy("more", "wall", ("x", "-1", "5"))), ("failed", "lines", None))
        # A copy that closes the gaps comes too late.
        comb = Add("comb", sketch_of(e="1"), ("flat", "z", "0"), ("by", "1"))
        features = [comb, Copy("row", "comb", ("x", "2", "10")), Copy("late", "comb", ("x", "22", "2"))]
        self.assertEqual(statuses(*features)[2], ("failed", "lines", None))
        # Range is told before lines.
        self.assertEqual(last(peg, row, Copy("far", "peg", ("x", f"{LIMIT // 2}", "4"))), ("failed", "range", None))

    def test_lines_behind_a_copy_in_the_middle(self):
        """The second copy would take lines away again, but behind the first one there are too many."""
        comb = [Cut("slot", sketch_of(s="0", n="1", e="1"), ("flat", "z", "0"), ("all",)), Copy("slots", "slot", ("x", "2", "9"))]
        bar = Add("bar", sketch_of(e="40", n="1", w="-1"), ("flat", "z", "0"), ("by", "1"))
        self.assertEqual(statuses(bar, *comb), [("ok",)] * 3)
        self.assertEqual(len(evaluated(bar, *comb)[2].behind.lines("x")), 20)
        lid = Cut("lid", sketch_of(s="0", n="1", w="-1", e="100"), ("flat", "z", "20"), ("by", "1"))
        over = Copy("over", "lid", ("z", "-20", "2"))
        self.assertEqual(last(bar, *comb, lid, over), ("ok",))
        two = Cut("two", sketch_of(s="0", n="1", w="21", e="22"), ("flat", "z", "20"), ("by", "1"))
        more = Copy("more", "two", ("z", "-20", "2"))
        self.assertEqual(last(bar, *comb, two, more), ("failed", "lines", None))

    def test_what_fails_leaves_the_solid_as_it_is(self):
        features = [BASE, Push("p", LOST, "1"), Copy("c", "p", ("x", "1", "2")), Add("a", sketch_of(n="0"), ("flat", "z", "0"), ("by", "1")),
                    Keep("k", "x", "1 // 0", 1), Cut("t", SQUARE, ("flat", "x", "0"), ("to", TOP)), Push("up", TOP, "1")]
        records = evaluated(*features)
        for record in records[1:6]:
            self.assertEqual([record.told[0], record.before, record.behind], ["failed", records[0].behind, records[0].behind])
        self.assertEqual([records[6].told, records[6].behind.to_solid().volume], [("ok",), 48])

    def test_several_causes(self):
        """Each cause is told before those behind it in the list."""
        far = f"{LIMIT}"
        for sketch, plane, extent, told in [
                (sketch_of(e="0"), ("on", LOST, "1 // 0"), ("by", "0"), ("sketch", ("crossing", "e", "w"))),
                (SQUARE, ("on", LOST, "1 // 0"), ("by", "0"), ("value", "zero")), (SQUARE, ("on", LOST, far), ("by", "0"), ("pick", ("lost",))),
                (SQUARE, ("on", TOP, far), ("by", "0"), ("distance", 0)), (SQUARE, ("on", TOP, far), ("to", EAST), ("target", None)),
                (SQUARE, ("on", TOP, far), ("by", "1"), ("range", None))]:
            for kind in (Add, Cut):
                feature = kind("a", sketch, plane, extent)
                self.assertEqual(last(BASE, feature), ("failed", *told))
                self.assertEqual(records_of({}, [(BASE, True), (feature, False)])[1].told, ("off",))
        row = Copy("row", "peg", ("x", "6", "10"))
        peg = Add("peg", sketch_of(e="3"), ("flat", "z", "0"), ("by", "1"))
        self.assertEqual(last(peg, row, Add("a", SQUARE, ("flat", "z", far), ("by", "1"), ("90", "0"))), ("failed", "range", None))
        self.assertEqual(last(peg, row, Add("a", SQUARE, ("flat", "z", far), ("back", "1"), ("90", "0"))), ("failed", "lines", None))

    def test_without_features(self):
        self.assertEqual(records_of({}, []), ())
        self.assertEqual(statuses(Keep("k", "x", "0", 1)), [("ok",)])
        self.assertEqual(evaluated(Keep("k", "x", "0", 1))[0].behind, nothing())
        self.assertEqual(statuses(Cut("c", SQUARE, ("flat", "x", "0"), ("all",)), Mirror("m", "c", "x", "5")), [("ok",)] * 2)

    def test_surfaces_agree(self):
        seen = surface_of(evaluated(BASE)[0].behind, -5, 9)
        agrees(self, evaluated(BASE)[0].behind, seen, -5, 9)
        self.assertEqual(evaluated(BASE)[0].behind.to_solid(), block(((0, 0, 0), (4, 4, 2)), "a").to_solid())


if __name__ == "__main__":
    unittest.main()
