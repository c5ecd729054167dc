"""The rules of LANGUAGE.md that a reading of the package's files by Python can see; the others are for a reader."""

import ast
import pathlib
import re
import unittest
import warnings

FOLDER = pathlib.Path(__file__).resolve().parent.parent / "pairsfar"

BUILTINS = set("""
len range enumerate zip min max sum abs sorted reversed int str bool bytes list tuple dict set frozenset isinstance ord
repr any all divmod Exception ValueError TypeError KeyError IndexError LookupError ZeroDivisionError ArithmeticError
OverflowError RuntimeError NotImplementedError AttributeError StopIteration NotImplemented
""".split())

PLAIN_METHODS = set("""
append clear copy count endswith extend find get index insert isalnum isalpha isdigit islower isspace isupper items join
keys ljust lower lstrip partition pop remove replace reverse rfind rjust rpartition rsplit rstrip setdefault split
splitlines startswith strip update upper values zfill bit_length sort add discard
""".split())

BARRED_WORDS = re.compile(
    r"\b(type|typing|typing_extensions|enum|Enum|IntEnum|StrEnum|Flag|IntFlag|Generic|Protocol|ABC|ABCMeta|namedtuple"
    r"|NamedTuple|TypedDict|TYPE_CHECKING|abstractmethod)\b|dataclass|overload|contextmanager")

BARRED_NAMES = set("""
register mro elements open input version_info with_traceback add_note attrgetter breakpoint builtins compile copyright
credits delattr dir eval exec exit gc getattr globals hasattr help id importlib license locals methodcaller os quit
setattr super vars sys hash next map round filter format iter object print chr float pow slice
""".split())

BARRED_NODES = (
    ast.Global, ast.AsyncFunctionDef, ast.AsyncFor, ast.AsyncWith, ast.Await, ast.Import, ast.Div, ast.MatMult,
    ast.MatchClass, ast.MatchMapping,
)


def files():
    return sorted(FOLDER.glob("*.py"))


def names_bound(node):
    """The names that a node gives a meaning to."""
    if isinstance(node, (ast.FunctionDef, ast.ClassDef)):
        return [node.name]
    if isinstance(node, ast.arg):
        return [node.arg]
    if isinstance(node, ast.Name) and not isinstance(node.ctx, ast.Load):
        return [node.id]
    if isinstance(node, ast.ImportFrom):
        return [alias.asname or alias.name for alias in node.names]
    if isinstance(node, (ast.ExceptHandler, ast.MatchAs, ast.MatchStar)) and node.name:
        return [node.name]
    return []


class LanguageTest(unittest.TestCase):
    def each_node(self):
        for path in files():
            for node in ast.walk(ast.parse(path.read_text())):
                yield path.name, node

    def test_files(self):
        names = [path.name for path in FOLDER.iterdir() if path.name != "__pycache__"]
        self.assertIn("__init__.py", names)
        for name in names:
            self.assertRegex(name, r"^([a-z][a-z0-9_]*|__init__)\.py$")

    def test_characters_and_sizes(self):
        for path in files():
            text = path.read_bytes().decode("ascii")
            self.assertIsNone(re.search(r"[^ -~\n]", text), path.name)
            self.assertIsNone(BARRED_WORDS.search(text), path.name)
            lines = text.split("\n")
            self.assertLessEqual(len(lines), 400, path.name)
            self.assertLessEqual(max(len(line) for line in lines), 120, path.name)

    def test_no_warnings(self):
        for path in files():
            with warnings.catch_warnings():
                warnings.simplefilter("error")
                compile(path.read_text(), path.name, "exec")

    def test_statements_and_signs(self):
        for name, node in self.each_node():
            self.assertNotIsInstance(node, BARRED_NODES, name)
            if isinstance(node, ast.FunctionDef):
                self.assertLessEqual(node.end_lineno - node.lineno + 1, 40, node.name)
            if isinstance(node, ast.Constant):
                self.assertNotIsInstance(node.value, (float, complex), name)
                self.assertNotIn("%", str(node.value), name)
            if isinstance(node, ast.Compare):
                for sign, side in zip(node.ops, node.comparators):
                    if isinstance(sign, (ast.Is, ast.IsNot)):
                        self.assertTrue(isinstance(side, ast.Constant) and side.value in (None, True, False), name)

    def test_imports(self):
        order = {}
        for path in files():
            order[path.stem] = []
            for node in ast.walk(ast.parse(path.read_text())):
                if isinstance(node, ast.ImportFrom):
                    self.assertRegex(node.module, r"^pairsfar\.[a-z]+$")
                    self.assertEqual(node.level, 0)
                    order[path.stem].append(node.module.split(".")[1])
        while order:
            free = [stem for stem in order if not any(other in order for other in order[stem])]
            self.assertNotEqual(free, [], "files import from each other")
            for stem in free:
                del order[stem]

    def test_names(self):
        for name, node in self.each_node():
            for bound in names_bound(node):
                self.assertRegex(bound, r"^[A-Za-z][A-Za-z0-9_]*$|^__[a-z]+__$", name)
                self.assertNotIn(bound, BUILTINS | BARRED_NAMES, name)

    def test_names_that_are_read_are_bound_or_allowed(self):
        for path in files():
            nodes = list(ast.walk(ast.parse(path.read_text())))
            bound = {name for node in nodes for name in names_bound(node)}
            for node in nodes:
                if isinstance(node, ast.Name) and isinstance(node.ctx, ast.Load):
                    self.assertIn(node.id, bound | BUILTINS, path.name)

    def test_methods(self):
        own = {node.name for name, node in self.each_node() if isinstance(node, ast.FunctionDef)}
        for name, node in self.each_node():
            if isinstance(node, ast.Call) and isinstance(node.func, ast.Attribute):
                self.assertIn(node.func.attr, own | PLAIN_METHODS, name)

    def test_names_of_imports_and_classes_mean_nothing_else(self):
        for path in files():
            nodes = list(ast.walk(ast.parse(path.read_text())))
            taken = {name for node in nodes if isinstance(node, (ast.ImportFrom, ast.ClassDef))
                     for name in names_bound(node)}
            for node in nodes:
                if not isinstance(node, (ast.ImportFrom, ast.ClassDef, ast.FunctionDef)):
                    self.assertEqual(taken.intersection(names_bound(node)), set(), path.name)

    def test_no_name_is_a_method_and_an_attribute(self):
        methods, attributes = set(), set()
        for name, node in self.each_node():
            if isinstance(node, ast.ClassDef):
                methods.update(row.name for row in node.body if isinstance(row, ast.FunctionDef))
            if isinstance(node, ast.Attribute) and isinstance(node.ctx, ast.Store):
                attributes.add(node.attr)
        self.assertEqual(methods & attributes, set())
        self.assertEqual(attributes & PLAIN_METHODS, set())
        self.assertEqual(methods & PLAIN_METHODS, set())

    def test_module_level(self):
        allowed = (ast.Expr, ast.ImportFrom, ast.FunctionDef, ast.ClassDef, ast.Assign)
        for path in files():
            rows = ast.parse(path.read_text()).body
            for at, row in enumerate(rows):
                self.assertIsInstance(row, allowed, path.name)
                if isinstance(row, ast.Expr):
                    self.assertTrue(at == 0 and isinstance(row.value, ast.Constant), path.name)
            bound = [name for row in rows for name in names_bound(row)]
            bound += [target.id for row in rows if isinstance(row, ast.Assign) for target in row.targets]
            self.assertEqual(len(bound), len(set(bound)), path.name)


if __name__ == "__main__":
    unittest.main()
