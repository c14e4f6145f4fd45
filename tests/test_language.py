"""That the files of the package keep to the rules of the language that a look at them can tell."""

import ast
import builtins
import re
import unittest
from pathlib import Path

PACKAGE = Path(__file__).resolve().parent.parent / "wiretongue"
FILES = sorted(PACKAGE.glob("*.py"))

BUILTINS = set((
    "len range enumerate zip min max sum abs sorted reversed int str bool bytes list tuple dict set frozenset "
    "isinstance ord repr any all divmod iter next map Exception ValueError TypeError KeyError IndexError "
    "LookupError ZeroDivisionError ArithmeticError OverflowError RuntimeError NotImplementedError "
    "AttributeError StopIteration NotImplemented property staticmethod classmethod super").split())
METHODS = set((
    "append clear copy count endswith extend find get index insert isalnum isalpha isdigit islower isspace "
    "isupper items join keys ljust lower lstrip partition pop remove replace reverse rfind rjust rpartition "
    "rsplit rstrip setdefault split splitlines startswith strip update upper values zfill bit_length title "
    "capitalize swapcase casefold center expandtabs removeprefix removesuffix rindex isascii isdecimal isnumeric "
    "istitle isidentifier isprintable translate add discard sort").split())
LIBRARY = {
    "heapq": "heappush heappop heapify heapreplace heappushpop".split(),
    "math": "gcd lcm isqrt comb perm factorial".split(),
    "itertools": "product combinations permutations".split(),
    "__future__": ["annotations"],
}
BARRED = re.compile(
    r"\b(type|typing|typing_extensions|enum|Enum|IntEnum|StrEnum|Flag|IntFlag|Generic|Protocol|ABC|ABCMeta"
    r"|namedtuple|NamedTuple|TypedDict|TYPE_CHECKING|abstractmethod)\b|dataclass|overload|contextmanager")
BARRED_NAMES = set((
    "register mro elements open input law version_info with_traceback add_note attrgetter breakpoint builtins "
    "compile copyright credits delattr dir eval exec exit gc getattr globals hasattr help id importlib license "
    "locals methodcaller os quit setattr vars sys").split())
BARRED_HEADS = ("_wall", "_pe_", "_dcw_", "_enum_", "_cm_", "_twin_re_", "_lay_", "_law_", "_stub_", "_sre", "__")
STATEMENTS = (
    ast.Assign, ast.AugAssign, ast.AnnAssign, ast.If, ast.While, ast.For, ast.Return, ast.Break, ast.Continue,
    ast.Pass, ast.Raise, ast.Assert, ast.Delete, ast.Nonlocal, ast.Match, ast.With, ast.Try, ast.Expr,
    ast.FunctionDef, ast.ClassDef, ast.ImportFrom)


def bound_names(tree):
    """Every name that something in a file binds, with the node that does it."""
    for node in ast.walk(tree):
        if isinstance(node, (ast.FunctionDef, ast.ClassDef)):
            yield node.name, node
        elif isinstance(node, ast.arg):
            yield node.arg, node
        elif isinstance(node, ast.Name) and isinstance(node.ctx, ast.Store):
            yield node.id, node
        elif isinstance(node, ast.ExceptHandler) and node.name:
            yield node.name, node
        elif isinstance(node, ast.alias):
            yield node.asname or node.name, node


def top_names(tree):
    """The names that a file binds at its module level, each as often as it is bound."""
    names = []
    for node in tree.body:
        if isinstance(node, (ast.FunctionDef, ast.ClassDef)):
            names.append(node.name)
        elif isinstance(node, ast.ImportFrom):
            names.extend(alias.name for alias in node.names)
        elif isinstance(node, ast.Assign):
            names.extend(target.id for target in node.targets)
    return names


class Language(unittest.TestCase):
    @classmethod
    def setUpClass(cls):
        cls.texts = {path: path.read_bytes().decode("utf-8") for path in FILES}
        cls.trees = {path: ast.parse(text) for path, text in cls.texts.items()}

    def nodes(self, *kinds):
        for path, tree in self.trees.items():
            for node in ast.walk(tree):
                if isinstance(node, kinds):
                    yield f"{path.name}:{getattr(node, 'lineno', 0)}", node

    def test_files(self):
        for path in PACKAGE.iterdir():
            if path.name != "__pycache__":
                self.assertRegex(path.name, r"^[a-z0-9_]+\.py$")
                self.assertNotIn(path.stem, set(dir(builtins)) | {"test", "tests", "testing", "site", "conftest"})
        self.assertIn(PACKAGE / "__init__.py", FILES)

    def test_signs_and_sizes(self):
        for path, text in self.texts.items():
            self.assertLessEqual(text.count("\n"), 399, path.name)
            for number, line in enumerate(text.split("\n"), 1):
                self.assertLessEqual(len(line), 120, f"{path.name}:{number}")
                self.assertRegex(line, r"^[ -~]*$", f"{path.name}:{number}")
        for where, node in self.nodes(ast.FunctionDef):
            self.assertLessEqual(node.end_lineno - node.lineno + 1, 40, where)

    def test_statements(self):
        for where, node in self.nodes(ast.stmt):
            self.assertIsInstance(node, STATEMENTS, where)
        for where, node in self.nodes(ast.Expr):
            value = node.value
            said = isinstance(value, ast.Constant) and isinstance(value.value, str)
            self.assertTrue(said or isinstance(value, (ast.Call, ast.Yield, ast.YieldFrom)), where)

    def test_module_level(self):
        for path, tree in self.trees.items():
            for k, node in enumerate(tree.body):
                docstring = k == 0 and isinstance(node, ast.Expr)
                kinds = (ast.ImportFrom, ast.FunctionDef, ast.ClassDef, ast.Assign)
                self.assertTrue(docstring or isinstance(node, kinds), f"{path.name}:{node.lineno}")
                if isinstance(node, ast.Assign):
                    self.assertEqual([target.__class__ for target in node.targets], [ast.Name])
                    for part in ast.walk(node.value):
                        self.assertNotIsInstance(part, (ast.Call, ast.Lambda, ast.ListComp, ast.Set))
            names = top_names(tree)
            self.assertEqual(len(names), len(set(names)), path.name)

    def test_imports(self):
        follows = {}
        for path, tree in self.trees.items():
            follows[path.stem] = []
            for node in ast.walk(tree):
                if not isinstance(node, ast.ImportFrom):
                    continue
                self.assertIn(node, tree.body)
                self.assertEqual(node.level, 0)
                self.assertTrue(all(alias.asname is None for alias in node.names))
                if node.module in LIBRARY:
                    self.assertLessEqual({alias.name for alias in node.names}, set(LIBRARY[node.module]))
                    continue
                self.assertRegex(node.module, r"^wiretongue\.[a-z_]+$")
                stem = node.module.split(".")[1]
                follows[path.stem].append(stem)
                other = self.trees[PACKAGE / f"{stem}.py"]
                own = [name for part in other.body if not isinstance(part, ast.ImportFrom)
                       for name in top_names(ast.Module(body=[part], type_ignores=[]))]
                for alias in node.names:
                    self.assertIn(alias.name, own, path.name)
        while follows:
            ended = [stem for stem in follows if not set(follows[stem]) & set(follows)]
            self.assertTrue(ended, f"import rings: {sorted(follows)}")
            follows = {stem: follows[stem] for stem in follows if stem not in ended}

    def test_names(self):
        for path, tree in self.trees.items():
            imported = {alias.name for node in tree.body if isinstance(node, ast.ImportFrom) for alias in node.names}
            classes = {node.name for node in tree.body if isinstance(node, ast.ClassDef)}
            methods = {id(part) for node in tree.body if isinstance(node, ast.ClassDef) for part in node.body}
            for name, node in bound_names(tree):
                where = f"{path.name}: {name}"
                self.assertRegex(name, r"^_?[A-Za-z][A-Za-z0-9_]*$|^_$|^__[a-z]+__$", where)
                if isinstance(node, ast.FunctionDef) and re.match(r"^__[a-z]+__$", name):
                    self.assertIn(id(node), methods, where)
                    continue
                self.assertFalse(name.startswith(BARRED_HEADS), where)
                self.assertNotIn(name, BARRED_NAMES, where)
                if id(node) not in methods:
                    self.assertNotIn(name, dir(builtins), where)
                if isinstance(node, (ast.arg, ast.Name)):
                    self.assertNotIn(name, imported | classes, where)

    def test_what_is_called_and_read(self):
        own = {name for tree in self.trees.values() for name, node in bound_names(tree)}
        stored = {node.attr for _, node in self.nodes(ast.Attribute) if isinstance(node.ctx, ast.Store)}
        for path, tree in self.trees.items():
            bound = {name for name, _ in bound_names(tree)}
            for node in ast.walk(tree):
                if isinstance(node, ast.Name) and isinstance(node.ctx, ast.Load):
                    self.assertIn(node.id, bound | BUILTINS, f"{path.name}:{node.lineno}")
                    self.assertNotEqual(node.id, "_", f"{path.name}:{node.lineno}")
                if isinstance(node, ast.Attribute):
                    self.assertIn(node.attr, own | stored | METHODS, f"{path.name}:{node.lineno}")

    def test_words(self):
        for path, tree in self.trees.items():
            for node in ast.walk(tree):
                names = [getattr(node, field, None) for field in ("id", "attr", "arg", "name")]
                for name in names:
                    if isinstance(name, str):
                        self.assertIsNone(BARRED.search(name), f"{path.name}: {name}")

    def test_values(self):
        for where, node in self.nodes(ast.Constant):
            self.assertNotIsInstance(node.value, (float, complex), where)
            if isinstance(node.value, str):
                self.assertNotIn("%", node.value, where)
                self.assertFalse(node.value.endswith(("._", ".__")), where)
        for where, node in self.nodes(ast.BinOp, ast.AugAssign):
            self.assertNotIsInstance(node.op, (ast.Div, ast.MatMult), where)
            if isinstance(node.op, ast.Pow):
                self.assertIsInstance(node.right, ast.Constant, where)
        for where, node in self.nodes(ast.Compare):
            for op, right in zip(node.ops, node.comparators):
                if isinstance(op, (ast.Is, ast.IsNot)):
                    self.assertTrue(isinstance(right, ast.Constant) and right.value in (None, True, False), where)

    def test_what_is_not_used(self):
        kinds = (ast.Global, ast.AsyncFunctionDef, ast.Await, ast.Import, ast.Starred)
        for where, node in self.nodes(*kinds):
            if isinstance(node, ast.Starred):
                self.assertIsInstance(node.value, (ast.Name, ast.Attribute), where)
            else:
                self.fail(where)
        for where, node in self.nodes(ast.FunctionDef, ast.ClassDef):
            for decorator in node.decorator_list:
                said = ast.unparse(decorator)
                self.assertRegex(said, r"^(property|staticmethod|classmethod|\w+\.setter)$", where)

    def test_caught_errors(self):
        for where, node in self.nodes(ast.ExceptHandler):
            self.assertIsNotNone(node.type, where)
            said = ast.unparse(node.type)
            for name in ("Exception", "TypeError", "ArithmeticError", "OverflowError", "RuntimeError",
                         "NotImplementedError", "AttributeError"):
                self.assertNotRegex(said, rf"\b{name}\b", where)

    def test_raised_errors(self):
        for where, node in self.nodes(ast.Raise):
            if node.exc is not None:
                self.assertIsInstance(node.exc, ast.Call, where)
                self.assertIsInstance(node.exc.func, ast.Name, where)


class Interface(unittest.TestCase):
    """That what the interface lists is defined in the file under which it stands."""

    LISTED = {
        "errors": ("WireError", "Fault", "Nested", "Ring", "NoRoom", "NoPaper", "Unlike", "TooMany", "NoText",
                   "NoName", "NoPath"),
        "words": ("is_name(thing)",),
        "reading": ("read_module(text)",),
        "writing": ("show_module(tree)",),
        "faces": ("face_of(tree)",),
        "looking": ("look(design)", "wide(design, module, e)", "clocks(design, module, e)"),
        "flat": ("flat_of(design, top)",),
        "beats": ("told(flat, beats)", "wave_of(flat, beats, path)"),
        "nets": ("net_of(flat)",),
        "gates": ("gate_waves(net, beats, ins)",),
        "netchecks": ("net_holds(flat, thing)",),
        "turns": ("turned(net, turn)",),
        "laying": ("laid(net, table)",),
        "laychecks": ("laid_holds(net, table, thing)", "joined_holds(flat, table, thing)"),
        "slowest": ("slowest(net, laying, clock, *, delays=DELAYS)",),
        "slowchecks": ("slowest_holds(net, laying, clock, thing, *, delays=DELAYS)",),
        "waves": ("Waves",),
        "stands": ("Stand",),
        "things": ("show_thing(thing)", "read_thing(text)"),
        "parting": ("parted(one, other, *, most=MOST)",),
        "partchecks": ("parted_holds(one, other, thing)", "alike_holds(one, other, thing)"),
        "whys": ("why_of(flat, beats, path, k, n)",),
        "whychecks": ("why_holds(flat, beats, path, k, n, thing)",),
    }
    METHODS = {
        "waves": ("__init__(self, flat, net, beats)", "wave(self, path)", "lacking(self, path)", "gates(self, path)",
                  "names_at(self, gate)", "paths(self, by=None)", "__len__(self)", "__eq__(self, other)"),
        "stands": ("__init__(self, design=(), *, top=TOP, turns=TURNS, table=TABLE, delays=DELAYS)",
                   "put(self, name, text)", "out(self, name)", "make(self)", "made(self)", "paper(self)", "flat(self)",
                   "whence(self, path)", "run(self, beats)", "waves(self, beats)", "slowest(self, clock)",
                   "led(self, clock)", "design(self)", "options(self)", "stale(self)", "__len__(self)",
                   "__eq__(self, other)", "__str__(self)"),
    }

    def test_defined_there(self):
        for stem, listed in self.LISTED.items():
            tree = ast.parse((PACKAGE / f"{stem}.py").read_text())
            defined = [node.name for node in tree.body if isinstance(node, ast.ClassDef)]
            for node in tree.body:
                if isinstance(node, ast.FunctionDef):
                    defined.append(f"{node.name}({ast.unparse(node.args)})")
            for told in listed:
                self.assertIn(told, defined, stem)

    def test_methods_stand_in_their_class(self):
        for stem, listed in self.METHODS.items():
            tree = ast.parse((PACKAGE / f"{stem}.py").read_text())
            methods = [f"{node.name}({ast.unparse(node.args)})" for told in tree.body if isinstance(told, ast.ClassDef)
                       for node in told.body if isinstance(node, ast.FunctionDef)]
            for told in listed:
                self.assertIn(told, methods, stem)


if __name__ == "__main__":
    unittest.main()
