"""The form of the code: what can be seen of ../shared/LANGUAGE.md in the syntax trees of the package."""

import ast
import builtins
import keyword
import os
import re
import unittest

FOLDER = os.path.join(os.path.dirname(os.path.dirname(os.path.abspath(__file__))), "solidnames")

BUILTINS = set("""len range enumerate zip min max sum abs sorted reversed int str bool list tuple dict set frozenset
    isinstance ord repr any all divmod Exception ValueError TypeError KeyError IndexError LookupError ZeroDivisionError
    ArithmeticError OverflowError RuntimeError NotImplementedError AttributeError StopIteration NotImplemented""".split())
METHODS = set("""append clear copy count endswith extend find get index insert isalnum isalpha isdigit islower isspace
    isupper items join keys ljust lower lstrip partition pop remove replace reverse rfind rjust rpartition rsplit rstrip
    setdefault split splitlines startswith strip update upper values zfill bit_length add discard sort""".split())
OPERATORS = set("""__add__ __sub__ __and__ __or__ __neg__ __contains__ __getitem__ __bool__""".split())
SPECIAL = OPERATORS | {"__init__", "__eq__", "__repr__", "__str__", "__len__", "__call__", "__iter__"}
STATEMENTS = (
    ast.Assign, ast.AugAssign, ast.If, ast.While, ast.For, ast.Return, ast.Break, ast.Continue, ast.Pass, ast.Raise, ast.Assert,
    ast.Delete, ast.Nonlocal, ast.Try, ast.Expr, ast.FunctionDef, ast.ClassDef, ast.ImportFrom)
NOT_EXPRESSIONS = (ast.Await, ast.YieldFrom, ast.GeneratorExp, ast.Set, ast.SetComp, ast.NamedExpr)
WORDS_NOWHERE = set("""type typing enum Enum IntEnum StrEnum Flag IntFlag Generic Protocol ABC ABCMeta namedtuple NamedTuple
    TypedDict TYPE_CHECKING abstractmethod""".split())
NAMES_NOWHERE = set("register mro elements open input law version_info with_traceback add_note".split())
ATTRIBUTES_NOWHERE = set("""items keys values pop update append clear extend insert remove reverse setdefault sort args
    encode decode hex fromhex format format_map""".split())
# L12: barred, also with digits or underscores behind them; and what no name begins with.
NAMES_BARRED = "_cold _tuplegetter _outside _record _written_out _member_names".split()
BEGINNINGS_BARRED = ("_pe_", "_dcw_", "_enum_", "_cm_", "_twin_re_", "_lay_", "_law_", "_stub_", "_sre", "_WallAttr")
LIBRARY = {"math": {"gcd", "lcm", "isqrt", "comb", "perm", "factorial"}}
VIEWS = {"zip", "enumerate", "reversed", "range"}
ITERATING = {"list", "tuple", "dict", "sorted", "sum", "any", "all", "enumerate", "zip", "min", "max"}


def sources():
    for name in sorted(os.listdir(FOLDER)):
        if name != "__pycache__":
            with open(os.path.join(FOLDER, name), encoding="utf-8") as file:
                yield name, file.read()


def parsed():
    for name, text in sources():
        tree = ast.parse(text)
        for node in ast.walk(tree):
            for child in ast.iter_child_nodes(node):
                child.parent = node
        yield name, tree


def nodes(*kinds):
    for name, tree in parsed():
        for node in ast.walk(tree):
            if isinstance(node, kinds):
                yield f"{name}:{getattr(node, 'lineno', 0)}", node


def names_in(tree):
    """Tuples (row, name) of all that is bound, read or called by name in a tree."""
    for node in ast.walk(tree):
        found = []
        for field in ("id", "attr", "arg", "name", "asname", "rest", "names"):
            value = getattr(node, field, None)
            found += value if isinstance(value, list) else [value]
        yield from ((getattr(node, "lineno", 0), name) for name in found if isinstance(name, str))


def barred_names(tree):
    """The tuples of names that L12 bars."""
    return [(row, name) for row, name in names_in(tree)
            if name.rstrip("0123456789_") in NAMES_BARRED or name.startswith(BEGINNINGS_BARRED)]


def stars_in_indexes(tree):
    """The rows of indexes with a star in them."""
    return [node.lineno for node in ast.walk(tree) if isinstance(node, ast.Subscript)
            and any(isinstance(part, ast.Starred) for part in ast.walk(node.slice))]


def own_methods():
    return {node.name for _, node in nodes(ast.FunctionDef) if isinstance(node.parent, ast.ClassDef)}


def is_plain(node):
    if isinstance(node, ast.Constant):
        return not isinstance(node.value, (float, complex)) and node.value is not Ellipsis
    if isinstance(node, (ast.Tuple, ast.List)):
        return all(is_plain(item) for item in node.elts)
    if isinstance(node, ast.Dict):
        return all(is_plain(item) for item in node.keys + node.values)
    if isinstance(node, ast.UnaryOp):
        return isinstance(node.op, ast.USub) and is_plain(node.operand)
    return isinstance(node, ast.BinOp) and is_plain(node.left) and is_plain(node.right)


class FormTest(unittest.TestCase):
    def test_files(self):
        names = [name for name, _ in sources()]
        self.assertIn("__init__.py", names)
        for name, text in sources():
            self.assertRegex(name, r"^[a-z_0-9]+\.py$")
            self.assertTrue(re.fullmatch(r"[ -~\n]*", text), name)
            lines = text.split("\n")
            self.assertLessEqual(len(lines), 399, name)
            self.assertLessEqual(max(len(line) for line in lines), 120, name)
            self.assertIsNone(re.search(r"\b(_wall|_WallAttr)\b", text), name)
            for line in lines:
                self.assertEqual(line, line.rstrip(), name)

    def test_sizes_of_functions(self):
        for place, node in nodes(ast.FunctionDef):
            self.assertLessEqual(node.end_lineno - node.lineno + 1, 40, place)

    def test_imports(self):
        trees = dict(parsed())
        reads = {name: set() for name in trees}
        for place, node in nodes(ast.Import, ast.ImportFrom):
            self.assertIsInstance(node, ast.ImportFrom, place)
            if node.module in LIBRARY:
                self.assertLessEqual({part.name for part in node.names}, LIBRARY[node.module], place)
                continue
            self.assertEqual(node.level, 0, place)
            self.assertRegex(node.module, r"^solidnames\.[a-z]+$", place)
            file = node.module.split(".")[1] + ".py"
            reads[place.split(":")[0]].add(file)
            bound = {part.name for part in trees[file].body if isinstance(part, (ast.FunctionDef, ast.ClassDef))}
            bound |= {part.targets[0].id for part in trees[file].body if isinstance(part, ast.Assign)}
            for part in node.names:
                self.assertIsNone(part.asname, place)
                self.assertIn(part.name, bound, place)
        while reads:
            free = [name for name in reads if not reads[name] & set(reads)]
            self.assertTrue(free, f"imports in a ring: {sorted(reads)}")
            reads = {name: reads[name] for name in reads if name not in free}

    def test_imports_are_used(self):
        for name, tree in parsed():
            used = {node.id for node in ast.walk(tree) if isinstance(node, ast.Name)}
            for node in tree.body:
                if isinstance(node, ast.ImportFrom):
                    for part in node.names:
                        self.assertIn(part.name, used, name)

    def test_module_level(self):
        for name, tree in parsed():
            self.assertIsInstance(tree.body[0], ast.Expr, name)
            bound = []
            for node in tree.body:
                place = f"{name}:{node.lineno}"
                if isinstance(node, ast.Assign):
                    self.assertTrue(len(node.targets) == 1 and isinstance(node.targets[0], ast.Name), place)
                    self.assertTrue(is_plain(node.value), place)
                    bound.append(node.targets[0].id)
                elif isinstance(node, (ast.FunctionDef, ast.ClassDef)):
                    bound.append(node.name)
                elif isinstance(node, ast.ImportFrom):
                    bound.extend(part.name for part in node.names)
                else:
                    self.assertIsInstance(node, ast.Expr, place)
                    self.assertIsInstance(node.value, ast.Constant, place)
            self.assertEqual(len(bound), len(set(bound)), name)
            self.assertFalse(set(bound) & set(dir(builtins)), name)

    def test_statements(self):
        for place, node in nodes(ast.stmt):
            self.assertIsInstance(node, STATEMENTS, place)
        for place, node in nodes(*NOT_EXPRESSIONS):
            self.fail(f"{place}: {node}")
        for place, node in nodes(ast.Expr):
            self.assertIsInstance(node.value, (ast.Call, ast.Constant, ast.Yield), place)
        for place, node in nodes(ast.Yield):
            self.assertIsInstance(node.parent, ast.Expr, place)
        for place, node in nodes(ast.BinOp, ast.AugAssign):
            self.assertNotIsInstance(node.op, (ast.Div, ast.MatMult), place)
        for place, node in nodes(ast.Constant):
            self.assertNotIsInstance(node.value, (float, complex, bytes), place)
            if isinstance(node.value, str):
                self.assertNotIn("%", node.value, place)
                self.assertFalse(node.value.startswith("__") or node.value.endswith(("._", ".__")), place)

    def test_functions_and_classes(self):
        for place, node in nodes(ast.FunctionDef):
            decorators = [ast.unparse(decorator) for decorator in node.decorator_list]
            self.assertIn(decorators, [[], ["property"]], place)
            for default in node.args.defaults + node.args.kw_defaults:
                self.assertTrue(default is None or is_plain(default), place)
            if node.name.startswith("__"):
                self.assertIn(node.name, SPECIAL, place)
                self.assertIsInstance(node.parent, ast.ClassDef, place)
            if decorators:
                self.assertNotIn(node.name, METHODS, place)
        for place, node in nodes(ast.ClassDef):
            self.assertEqual([node.decorator_list, node.keywords], [[], []], place)
            methods = [part.name for part in node.body if isinstance(part, ast.FunctionDef)]
            self.assertEqual(len(methods), len(set(methods)), place)
            if "__getitem__" in methods:
                self.assertIn("__iter__", methods, place)

    def test_generators(self):
        """Each has a name of its own, and its calls are iterated at once."""
        names = [node.name for _, node in nodes(ast.FunctionDef)]
        generators = set()
        for place, node in nodes(ast.Yield):
            while not isinstance(node, ast.FunctionDef):
                self.assertNotIsInstance(node, (ast.Try, ast.With), place)
                node = node.parent
            generators.add(node.name)
        for name in generators:
            self.assertEqual(names.count(name), 1, name)
        for place, node in nodes(ast.Call):
            name = node.func.attr if isinstance(node.func, ast.Attribute) else getattr(node.func, "id", None)
            if name in generators:
                parent = node.parent
                iterated = isinstance(parent, (ast.For, ast.comprehension)) and parent.iter is node
                called = isinstance(parent, ast.Call) and isinstance(parent.func, ast.Name) and parent.func.id in ITERATING
                self.assertTrue(iterated or called, place)

    def test_names(self):
        for place, node in nodes(ast.Name, ast.arg, ast.FunctionDef, ast.ClassDef, ast.Attribute, ast.keyword):
            name = getattr(node, "id", None) or getattr(node, "attr", None) or getattr(node, "name", None) or node.arg
            if name is None or name in SPECIAL:
                continue
            self.assertRegex(name, r"^(_|_?[A-Za-z][A-Za-z0-9_]*)$", place)
            self.assertNotIn(name, NAMES_NOWHERE, place)
            self.assertFalse(keyword.issoftkeyword(name) and name != "_", place)

    def test_barred_names(self):
        for name, tree in parsed():
            self.assertEqual(barred_names(tree), [], name)
        for text in ["_record = 1", "x._outside", "def f(_cold): pass", "def _record_2(): pass", "class A:\n def _member_names(self): pass",
                     "from a import _record1", "f(_written_out=1)", "try: pass\nexcept E as _tuplegetter_: pass", "_sre_x = 1", "x._law_y"]:
            self.assertEqual(len(barred_names(ast.parse(text))), 1, text)
        for text in ["record = _recorded = 1", "x.outside", "x._records", "x._colder", "_laws = 1"]:
            self.assertEqual(barred_names(ast.parse(text)), [], text)

    def test_stars_in_indexes(self):
        for name, tree in parsed():
            self.assertEqual(stars_in_indexes(tree), [], name)
        for text in ["d[(*a, 1)]", "d[*a]", "d[(*a, 1)] = 2", "d[1, [*a]]", "d[f(*a)]", "del d[(1, *a)]"]:
            self.assertEqual(stars_in_indexes(ast.parse(text)), [1], text)
        for text in ["d[a, 1]", "[*a, d[1]]", "f(*d[1])", "k = (*a, 1)\nd[k] = 1"]:
            self.assertEqual(stars_in_indexes(ast.parse(text)), [], text)

    def test_locals(self):
        for name, tree in parsed():
            taken = set(dir(builtins))
            for node in tree.body:
                if isinstance(node, ast.ImportFrom):
                    taken |= {part.name for part in node.names}
                elif isinstance(node, ast.ClassDef):
                    taken.add(node.name)
            for node in ast.walk(tree):
                if isinstance(node, ast.Name) and isinstance(node.ctx, ast.Store) or isinstance(node, ast.arg):
                    self.assertNotIn(getattr(node, "id", None) or node.arg, taken, f"{name}:{node.lineno}")

    def test_words(self):
        for place, node in nodes(ast.Name, ast.Attribute, ast.arg, ast.Constant):
            text = getattr(node, "id", None) or getattr(node, "attr", None) or getattr(node, "arg", None) or node.value
            if isinstance(text, str) and not (isinstance(node, ast.Constant) and isinstance(node.parent, ast.Expr)):
                self.assertFalse(set(re.findall(r"\w+", text)) & WORDS_NOWHERE, place)

    def test_builtins(self):
        for name, tree in parsed():
            for node in ast.walk(tree):
                if isinstance(node, ast.Name) and node.id in dir(builtins) and node.id != "property":
                    self.assertIn(node.id, BUILTINS, f"{name}:{node.lineno}")

    def test_attributes(self):
        methods = own_methods()
        stored = {node.attr for _, node in nodes(ast.Attribute) if isinstance(node.ctx, ast.Store)}
        self.assertFalse(stored & ATTRIBUTES_NOWHERE)
        properties = {node.name for _, node in nodes(ast.FunctionDef) if node.decorator_list}
        self.assertFalse(stored & properties)
        for place, node in nodes(ast.Attribute):
            if isinstance(node.parent, ast.Call) and node.parent.func is node:
                self.assertIn(node.attr, methods | METHODS | {"__init__"}, place)
            elif isinstance(node.ctx, ast.Load):
                self.assertIn(node.attr, stored | properties | {"MOST"}, place)
        for place, node in nodes(ast.ClassDef):
            assigned = {part.attr for part in ast.walk(node) if isinstance(part, ast.Attribute) and isinstance(part.ctx, ast.Store)}
            self.assertFalse(assigned & {part.name for part in node.body if isinstance(part, ast.FunctionDef)}, place)

    def test_methods_and_attributes(self):
        """No name is that of a method and of an attribute, in any classes."""
        stored = {node.attr for _, node in nodes(ast.Attribute) if isinstance(node.ctx, ast.Store)}
        self.assertFalse(stored & own_methods())

    def test_iterated_at_once(self):
        for place, node in nodes(ast.Call):
            view = isinstance(node.func, ast.Name) and node.func.id in VIEWS
            view = view or isinstance(node.func, ast.Attribute) and node.func.attr in ("items", "keys", "values")
            if not view:
                continue
            parent = node.parent
            iterated = isinstance(parent, (ast.For, ast.comprehension)) and parent.iter is node
            called = isinstance(parent, ast.Call) and isinstance(parent.func, ast.Name) and parent.func.id in ITERATING
            self.assertTrue(iterated or called, place)

    def test_sets(self):
        for place, node in nodes(ast.Call):
            if isinstance(node.func, ast.Name) and node.func.id == "set":
                parent = node.parent
                self.assertTrue(isinstance(parent, ast.Call) and ast.unparse(parent.func) in ("sorted", "len"), place)

    def test_calls(self):
        for place, node in nodes(ast.Call):
            for part in node.args:
                if isinstance(part, ast.Starred):
                    self.assertIsInstance(part.value, (ast.Name, ast.Attribute), place)
                    self.assertNotIn(ast.unparse(node.func), BUILTINS - {"max", "min", "zip"}, place)
            for part in node.keywords:
                if part.arg is None:
                    self.assertIsInstance(part.value, (ast.Name, ast.Attribute), place)
                    self.assertEqual(len(node.keywords), 1, place)

    def test_errors(self):
        own = {node.name for _, node in nodes(ast.ClassDef)}
        for place, node in nodes(ast.ExceptHandler):
            self.assertIsInstance(node.type, ast.Name, place)
            self.assertIn(node.type.id, own | {"KeyError"}, place)
        for place, node in nodes(ast.Raise):
            self.assertTrue(node.exc is None or isinstance(node.exc, ast.Call), place)
        for place, node in nodes(ast.Compare):
            for sign, other in zip(node.ops, node.comparators):
                if isinstance(sign, (ast.Is, ast.IsNot)):
                    self.assertIn(ast.unparse(other), ("None", "True", "False"), place)

    def test_what_operators_and_properties_run(self):
        """They assign no attributes but those of new objects, and add to no list that they did not create."""
        functions = {}
        for _, node in nodes(ast.FunctionDef):
            owner = node.parent.name if isinstance(node.parent, ast.ClassDef) else None
            functions.setdefault(owner if node.name == "__init__" else node.name, []).append(node)
        todo = [node for _, node in nodes(ast.FunctionDef)
                if node.decorator_list or node.name in OPERATORS | {"__eq__", "__len__"}]
        stored = {node.attr for _, node in nodes(ast.Attribute) if isinstance(node.ctx, ast.Store)}
        seen = set()
        while todo:
            node = todo.pop()
            if node in seen:
                continue
            seen.add(node)
            self.check_changes_nothing(node)
            for call in ast.walk(node):
                if isinstance(call, ast.Call):
                    name = call.func.attr if isinstance(call.func, ast.Attribute) else getattr(call.func, "id", None)
                    todo.extend(functions.get(name, []))
                    # Of a name that is an attribute, too, nobody knows what is called.
                    if isinstance(call.func, ast.Attribute):
                        self.assertNotIn(name, stored, f"{node.name}:{node.lineno}")

    def check_changes_nothing(self, function):
        created, place = set(), f"{function.name}:{function.lineno}"
        for node in ast.walk(function):
            if isinstance(node, ast.Assign):
                value = node.value
                made = isinstance(value, (ast.List, ast.Dict, ast.ListComp))
                made = made or isinstance(value, ast.Call) and ast.unparse(value.func) in ("list", "dict", "sorted")
                created |= {target.id for target in node.targets if isinstance(target, ast.Name) and made}
        for node in ast.walk(function):
            if isinstance(node, (ast.Attribute, ast.Subscript)) and isinstance(node.ctx, (ast.Store, ast.Del)):
                if isinstance(node, ast.Attribute):
                    self.assertEqual((function.name, ast.unparse(node.value)), ("__init__", "self"), place)
                else:
                    self.assertIn(ast.unparse(node.value), created, place)
            elif isinstance(node, ast.AugAssign):
                self.assertIsInstance(node.target, ast.Name, place)
                self.assertIsInstance(node.value, ast.Constant, place)
            elif isinstance(node, ast.Call) and isinstance(node.func, ast.Attribute):
                if node.func.attr in ("append", "extend", "insert", "pop", "remove", "clear", "update", "setdefault", "reverse"):
                    self.assertIn(ast.unparse(node.func.value), created, place)
                self.assertNotIn(node.func.attr, ("sort", "add", "discard"), place)


if __name__ == "__main__":
    unittest.main()
