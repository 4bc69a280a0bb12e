"""[2] and [3] over the whole interface: where each name is defined, and how it is called."""

import importlib
import inspect
import unittest

from solidnames.apart import shows_apart, taken_apart
from solidnames.chords import chords
from solidnames.compare import added, fates, moves, news, statuses, taken
from solidnames.console import Console
from solidnames.edges import corners, edges
from solidnames.faces import faces
from solidnames.features import Add, Copy, Cut, Keep, Mirror, Push
from solidnames.formulas import Formula
from solidnames.marked import block, nothing
from solidnames.names import find, names
from solidnames.nametexts import read_name, show_answer, show_name
from solidnames.pairs import contact, distance, is_distance, travel
from solidnames.parameters import Parameters
from solidnames.parts import Part
from solidnames.picks import is_pick, resolve
from solidnames.planes import Plane, prism
from solidnames.ranges import breaks, marks, same_order, stable
from solidnames.reading import read_feature, read_part
from solidnames.sections import face_outlines, face_perimeter, profile, section
from solidnames.sketches import Sketch
from solidnames.solids import Solid
from solidnames.standing import center, is_standing, standing
from solidnames.texts import feature_text, part_text, table
from solidnames.views import View
from tests.helpers import any_values, caught, square
from tests.test_evaluation import BASE, EAST, TOP
from tests.test_parts import keep, made

FILES = {
    "errors": """InvalidBox InvalidAxis InvalidNumber InvalidName InvalidPick OutOfBounds ParseError NotLinear Ring InUse InvalidOutline
        InvalidDimension InvalidFront InvalidFeature DuplicateName InvalidIndex InvalidSide NoCells Overlapping InvalidText InvalidKind NotDone
        CommandError NotSurface NothingToUndo NothingToRedo TooMany Failed UnknownName UnknownSide NotFeature NotFlag""",
    "formulas": "Formula", "parameters": "Parameters", "sketches": "Sketch", "shapes": "Shape", "planes": "Plane prism", "solids": "Solid",
    "marked": "Marked block nothing", "faces": "Face faces", "edges": "Edge Corner edges corners", "names": "names find", "picks": "is_pick resolve",
    "features": "Feature Add Cut Copy Mirror Push Keep", "parts": "Part Result", "chords": "chords",
    "sections": "section profile face_outlines face_perimeter", "standing": "center standing is_standing",
    "pairs": "contact distance is_distance travel", "apart": "taken_apart shows_apart", "views": "View", "nametexts": "show_name read_name show_answer",
    "compare": "added taken fates news moves statuses", "ranges": "marks same_order stable breaks", "texts": "feature_text part_text table",
    "reading": "read_feature read_part", "console": "Console"}
METHODS = {
    "formulas.Formula": "__eq__ evaluate linear", "parameters.Parameters": "__len__ __contains__ __getitem__ __eq__ defined without reached varied",
    "sketches.Sketch": "__eq__ solve", "shapes.Shape": "__contains__ ends side_between moved __eq__", "planes.Plane": "__eq__ __neg__ __add__ point_at",
    "solids.Solid": "__or__ __sub__ __and__ __eq__ __bool__ __contains__ lines boxes bodies hollows moved mirrored split",
    "marked.Marked": "__eq__ to_solid lines origin_of joined cut met moved mirrored within", "features.Feature": "renamed",
    "features.Add": "__eq__", "features.Cut": "__eq__", "features.Copy": "__eq__", "features.Mirror": "__eq__", "features.Push": "__eq__", "features.Keep": "__eq__",
    "parts.Part": """define drop put replace take move switch is_on __getitem__ __len__ __contains__ __eq__ undo redo attempt explore variant solids""",
    "parts.Result": "status ahead outcomes resolve __eq__", "views.View": "__eq__ seen seen_area state_of drawing walk", "console.Console": "run __call__"}
PROPERTIES = {
    "parameters.Parameters": "results", "sketches.Sketch": "freedom", "shapes.Shape": "positions rectangles area perimeter",
    "planes.Plane": "axis at front directions", "solids.Solid": "volume area bounds", "marked.Marked": "origins",
    "parts.Part": "parameters features result steps", "parts.Result": "results"}

LOW, HIGH = block(((0, 0, 0), (4, 4, 2)), "low"), block(((2, 0, 2), (6, 4, 4)), "high")
OVER = block(((1, 1, 1), (3, 3, 9)), "over")
ONE, OTHER = LOW.to_solid(), HIGH.to_solid()
RESULTS = {"a": ("value", 7)}
SIDES_OF_SQUARE = ("s", "e", "n", "w")
DIMENSIONS = tuple((side, None, text) for side, text in zip(SIDES_OF_SQUARE, ("0", "4", "a", "0")))
SKETCH = Sketch(SIDES_OF_SQUARE, dimensions=DIMENSIONS)
FLAT, BY, STEP = ("flat", "z", "0"), ("by", "2"), ("x", "5", "2")
NAME = names(LOW)[0]
BASE_TEXT = feature_text(BASE)


def a_part():
    return made(BASE, Push("up", TOP, "p"), Copy("row", "base", ("x", "9", "2")), p="1", q="3")


def calls():
    """Tuples (call, arguments by name): all functions and constructors, and methods of fresh objects."""
    part = a_part()
    result, other = part.result, part.variant(p=2)
    view, face, shape = View(LOW.joined(HIGH), "+z"), faces(LOW)[0], square()
    yield from [
        (Formula, {"text": "a + 1"}), (Formula("a + 1").evaluate, {"results": RESULTS}), (Formula("a + 1").linear, {"name": "a", "results": {}}),
        (Parameters(a="1", b="a").defined, {"name": "c", "text": "b"}), (Parameters(a="1", b="a").without, {"name": "b"}),
        (Parameters(a="1", b="a").reached, {"name": "a"}), (SKETCH.solve, {"results": RESULTS}),
        (shape.ends, {"side": "s"}), (shape.side_between, {"cell": (0, 0), "other": (0, -1)}), (shape.moved, {"u": 2, "v": -3}),
        (Plane, {"axis": "x", "at": 5}), (Plane, {"axis": "x", "at": 5, "front": -1}), (Plane("y", 3).point_at, {"u": 1, "v": 2}),
        (prism, {"plane": Plane("y", 3), "shape": shape, "distance": -2, "name": "p"}),
        (ONE.lines, {"axis": "x"}), (ONE.moved, {"x": 1, "y": 2, "z": 3}), (ONE.mirrored, {"axis": "y", "at": 1}), (ONE.split, {"axis": "z", "at": 1}),
        (block, {"box": ((0, 0, 0), (1, 1, 1)), "name": "a"}), (LOW.lines, {"axis": "y"}), (LOW.origin_of, {"cell": (0, 0, 0), "side": "-z"}),
        (LOW.joined, {"tool": HIGH}), (LOW.cut, {"tool": OVER}), (LOW.met, {"tool": OVER}), (LOW.moved, {"x": 1, "y": 2, "z": 3}),
        (LOW.mirrored, {"axis": "y", "at": 1}), (LOW.within, {"name": "a"}), (faces, {"marked": LOW}), (edges, {"marked": LOW}), (corners, {"marked": LOW}),
        (names, {"marked": LOW}), (find, {"marked": LOW, "name": NAME}), (is_pick, {"value": NAME}), (resolve, {"marked": HIGH, "pick": NAME}),
        (BASE.renamed, {"name": "new"}), (Add, {"name": "a", "sketch": SKETCH, "plane": FLAT, "extent": BY}),
        (Add, {"name": "a", "sketch": SKETCH, "plane": FLAT, "extent": BY, "shift": ("1", "2")}), (Cut, {"name": "a", "sketch": SKETCH, "plane": FLAT, "extent": ("all",)}),
        (Cut, {"name": "a", "sketch": SKETCH, "plane": FLAT, "extent": BY, "shift": ("1", "2")}), (Mirror, {"name": "a", "source": "b", "axis": "x", "formula": "1"}),
        (Push, {"name": "a", "pick": NAME, "formula": "1"}), (Keep, {"name": "a", "axis": "x", "formula": "1", "side": -1}),
        (a_part().define, {"name": "p", "text": "2"}), (a_part().drop, {"name": "q"}), (a_part().put, {"index": 1, "feature": keep("half")}),
        (a_part().replace, {"feature": keep("up")}), (a_part().take, {"name": "up"}), (a_part().move, {"name": "up", "index": 0}),
        (a_part().switch, {"name": "up", "on": False}), (part.is_on, {"name": "up"}), (part.attempt, {"call": len}), (part.explore, {"call": len}),
        (result.status, {"name": "up"}), (result.ahead, {"name": "up"}), (result.outcomes, {"name": "up"}), (result.resolve, {"pick": EAST}),
        (chords, {"marked": LOW, "axis": "z"}), (section, {"marked": LOW, "axis": "z", "at": 1}), (profile, {"marked": LOW, "axis": "z"}),
        (face_outlines, {"face": face}), (face_perimeter, {"face": face}), (center, {"solid": ONE}), (standing, {"solid": ONE}),
        (is_standing, {"solid": ONE, "value": standing(ONE)}), (contact, {"one": LOW, "other": HIGH}), (distance, {"one": ONE, "other": OTHER}),
        (is_distance, {"one": ONE, "other": OTHER, "value": distance(ONE, OTHER)}), (travel, {"one": ONE, "other": OTHER, "side": "+x"}),
        (View, {"marked": LOW, "side": "+z"}), (view.seen, {"u": 1, "v": 2}), (view.seen_area, {"name": view.faces[0]}), (view.state_of, {"name": view.faces[0]}),
        (show_name, {"name": NAME}), (read_name, {"text": show_name(NAME)}), (show_answer, {"answer": ("lost",)}),
        (added, {"one": LOW, "other": OVER}), (taken, {"one": LOW, "other": OVER}), (fates, {"one": LOW, "other": OVER}),
        (fates, {"one": LOW, "other": HIGH, "kind": "edge"}), (news, {"one": LOW, "other": OVER}), (news, {"one": LOW, "other": HIGH, "kind": "corner"}),
        (moves, {"one": LOW, "other": LOW.moved(1, 2, 3)}), (statuses, {"one": result, "other": other}), (marks, {"result": result}),
        (same_order, {"one": result, "other": other}), (stable, {"part": part, "name": "p"}), (breaks, {"part": part, "name": "p"}),
        (feature_text, {"feature": BASE}), (part_text, {"part": part}), (table, {"part": part}), (read_feature, {"text": BASE_TEXT}), (read_part, {"text": BASE_TEXT}),
        (Console().run, {"line": "let a 1"}), (Console(), {"line": "let a 1"})]


def told(value):
    """Generators as lists, for comparison."""
    return list(value) if inspect.isgenerator(value) else value


class InterfaceTest(unittest.TestCase):
    def test_where_each_name_is_defined(self):
        for file, listed in FILES.items():
            module = importlib.import_module("solidnames." + file)
            for name in listed.split():
                self.assertEqual(getattr(module, name).__module__, module.__name__, name)
        for table_of, kind in ((METHODS, None), (PROPERTIES, property)):
            for place, listed in table_of.items():
                file, name = place.split(".")
                body = vars(getattr(importlib.import_module("solidnames." + file), name))
                for method in listed.split():
                    self.assertIn(method, body, place)
                    self.assertIsInstance(body[method], kind or type(caught), place)

    def test_by_name_and_by_position(self):
        for (call, arguments), (again, _), (mixed, _) in zip(calls(), calls(), calls()):
            by_position = told(call(*arguments.values()))
            self.assertEqual(told(again(**dict(reversed(arguments.items())))), by_position, call)
            first, *rest = arguments
            self.assertEqual(told(mixed(arguments[first], **{name: arguments[name] for name in rest})), by_position, call)

    def test_no_other_arguments(self):
        for call, arguments in calls():
            required = [name for name, one in inspect.signature(call).parameters.items() if one.default is one.empty and one.kind == one.POSITIONAL_OR_KEYWORD]
            self.assertLessEqual(set(required), set(arguments), call)
            for name in required:
                with self.assertRaises(TypeError):
                    call(**{other: arguments[other] for other in arguments if other != name})
            with self.assertRaises(TypeError):
                call(**arguments, other_thing=1)

    def test_without_arguments(self):
        part = a_part()
        for call in (nothing, Part, Console, Solid, Parameters, ONE.boxes, ONE.bodies, ONE.hollows, LOW.to_solid, part.undo, part.redo, part.variant, part.solids,
                     View(LOW, "+z").drawing, View(LOW, "+z").walk, taken_apart):
            call()
            with self.assertRaises(TypeError):
                call(None, other_thing=1)

    def test_stars(self):
        self.assertEqual(Parameters(a="1", b="a").varied(a=3).results["b"], ("value", 3))
        self.assertEqual(a_part().variant(p=2, q=1).results, {"p": ("value", 2), "q": ("value", 1)})
        self.assertEqual(Copy("a", "b", STEP, STEP).arguments, ("a", "b", STEP, STEP))
        self.assertEqual(taken_apart(ONE, OTHER)[0], "apart")
        self.assertTrue(shows_apart(taken_apart(ONE, OTHER), ONE, OTHER))
        self.assertEqual(Solid(((0, 0, 0), (1, 1, 1)), ((1, 0, 0), (2, 1, 1))).volume, 2)
        with self.assertRaises(TypeError):
            Sketch(SIDES_OF_SQUARE, DIMENSIONS, sides=())

    def test_defaults(self):
        self.assertEqual(Plane("x", 1), Plane("x", 1, 1))
        for kind in (Add, Cut):
            self.assertEqual(kind("a", SKETCH, FLAT, BY), kind("a", SKETCH, FLAT, BY, ("0", "0")))
        self.assertEqual([fates(LOW, HIGH), news(LOW, HIGH)], [fates(LOW, HIGH, "face"), news(LOW, HIGH, "face")])
        self.assertEqual(Sketch(SIDES_OF_SQUARE), Sketch(SIDES_OF_SQUARE, dimensions=()))

    def test_tuples_in_the_place_of_lists(self):
        for outline in (SIDES_OF_SQUARE, list(SIDES_OF_SQUARE)):
            for dimensions in (DIMENSIONS, list(DIMENSIONS)):
                made_of = Sketch(outline, dimensions=dimensions)
                self.assertEqual(made_of, SKETCH)
                self.assertEqual([made_of.outlines, made_of.dimensions], [(SIDES_OF_SQUARE,), DIMENSIONS])
                if isinstance(outline, list) and isinstance(dimensions, list):
                    outline.append("x")
                    dimensions.clear()
                    self.assertEqual(made_of, SKETCH)
        # But not lists in the place of tuples.
        self.assertEqual(caught(Sketch, SIDES_OF_SQUARE, dimensions=[list(DIMENSIONS[0])]), ("InvalidDimension", 0))
        self.assertEqual(caught(Add, "a", SKETCH, list(FLAT), BY), ("InvalidFeature", "plane"))
        self.assertEqual(caught(Copy, "a", "b", list(STEP)), ("InvalidFeature", "steps"))

    def test_returned_lists_and_dicts_are_new(self):
        part = a_part()
        result, view = part.result, View(LOW, "+z")
        for call in (lambda: names(LOW), lambda: faces(LOW), lambda: edges(LOW), lambda: corners(LOW), lambda: ONE.boxes(), lambda: ONE.bodies(), lambda: chords(LOW, "x"),
                     lambda: contact(LOW, HIGH), lambda: view.drawing(), lambda: fates(LOW, HIGH), lambda: moves(LOW, LOW), lambda: marks(result), lambda: result.results,
                     lambda: part.parameters.results, lambda: statuses(result, part.variant(p=10 ** 30)), lambda: square().positions, lambda: part.define("p", "1") + ["x"]):
            first = call()
            self.assertIsInstance(first, (list, dict))
            kept = type(first)(first)
            first.clear()
            self.assertEqual(call(), kept)

    def test_generators_work_when_asked(self):
        for generator in (profile(LOW, "q"), profile(LOW, None)):
            self.assertEqual(caught(next, generator)[0], "InvalidAxis")
        part = made(BASE)
        later = part.solids()
        part.take("base")
        self.assertEqual(list(later), [])

    def test_equality_of_different_kinds(self):
        part = a_part()
        things = [Formula("1"), Parameters(), SKETCH, square(), Plane("x", 0), ONE, LOW, faces(LOW)[0], edges(LOW)[0], corners(LOW)[0], BASE, keep("a"), part, part.result,
                  section(LOW, "z", 1), View(LOW, "+z"), Console()]
        for place, thing in enumerate(things):
            self.assertEqual([thing == other for other in things], [index == place for index in range(len(things))])
            self.assertEqual([other == thing for other in things], [index == place for index in range(len(things))])
            for value in any_values()[:10]:
                self.assertFalse(thing == value)
                self.assertTrue(thing != value)

    def test_attributes_are_set_when_the_object_is_created(self):
        part = a_part()
        for thing, listed in [(Formula("a"), "text names"), (Parameters(), "names MOST"), (SKETCH, "outlines dimensions sides names freedom"),
                              (faces(LOW)[0], "origin side at area layer least around number many name"), (edges(LOW)[0], "faces start end kind name"),
                              (corners(LOW)[0], "point faces name"), (BASE, "name kind reads picks source"), (part, "parameters features result steps"),
                              (part.result, "marked results"), (section(LOW, "z", 1), "axis at regions area perimeter"), (View(LOW, "+z"), "side faces shadow bounds"),
                              (Console(), "part")]:
            for name in listed.split():
                self.assertTrue(hasattr(thing, name), name)


if __name__ == "__main__":
    unittest.main()
