"""Features and edits of all kinds, at random."""

from solidnames.features import Add, Copy, Cut, Keep, Mirror, Push
from solidnames.sketches import Sketch

FRAME = {"a": "0", "b": "4", "c": "4", "d": "0", "i": "1", "j": "3", "k": "3", "l": "p"}
SKETCHES = [
    Sketch(["s", "e", "n", "w"], dimensions=[("s", None, "0"), ("n", "s", "p"), ("w", None, "0"), ("e", "w", "q")]),
    Sketch(["s", "e", "n", "w"], dimensions=[("s", None, "1"), ("n", "s", "2"), ("w", None, "-1"), ("e", "w", "p + 1")]),
    Sketch(["a", "b", "c", "d", "e", "f"], dimensions=[
        ("a", None, "0"), ("c", None, "2"), ("e", None, "4"), ("f", None, "0"), ("b", None, "4"), ("d", None, "q")]),
    Sketch(["a", "b", "c", "d"], ["i", "j", "k", "l"], dimensions=[(side, None, text) for side, text in FRAME.items()])]


def random_results(source):
    return {name: ("value", source.choice([1, 2, 2, 3])) for name in "pq"}


def random_feature(source, name, known, sources):
    """A feature that picks some of the known names, and has one of the sources."""
    def some(*texts):
        return source.choice(texts)

    def pick():
        faces = [one for one in known if one[0] == "face"]
        return source.choice(faces if source.random() < 0.93 else known)
    kind = some("add", "add", "cut", "cut", "copy", "mirror", "push", "push", "keep") if known else "add"
    if kind in ("add", "cut"):
        plane = ("flat", some("x", "y", "z"), some("0", "1", "q", "-1"))
        if known and source.random() < 0.6:
            plane = ("on", pick(), some("0", "1", "-1", "p-2"))
        extent = source.choice([("by", some("1", "2", "p", "q-1")), ("back", some("1", "2", "q")),
                                ("to", pick()) if known else ("by", "3"), ("all",) if kind == "cut" else ("by", "2")])
        return (Add if kind == "add" else Cut)(name, source.choice(SKETCHES), plane, extent,
                                               (some("0", "1", "-1", "2"), some("0", "1", "q-2")))
    if kind == "copy":
        steps = [(some("x", "y", "z"), some("0", "1", "2", "-1", "3", "p"), some("1", "2", "3", "q", "0"))
                 for _ in range(some(1, 1, 2))]
        return Copy(name, source.choice(sources), *steps)
    if kind == "mirror":
        return Mirror(name, source.choice(sources), some("x", "y", "z"), some("0", "1", "2", "p"))
    if kind == "push":
        return Push(name, pick(), some("1", "2", "-1", "-2", "0", "p", "-5"))
    return Keep(name, some("x", "y", "z"), some("0", "1", "2", "q"), some(1, -1))
