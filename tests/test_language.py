"""The package keeps to the small part of Python that it is written in."""

import ast
import builtins
import pathlib
import re
import unittest

PACKAGE = pathlib.Path(__file__).resolve().parent.parent / "rankedroom"
OWN_NAMES = set("""len range enumerate zip min max sum abs sorted reversed int str bool list tuple dict set frozenset
isinstance ord repr any all divmod Exception ValueError TypeError KeyError IndexError LookupError ZeroDivisionError
ArithmeticError OverflowError RuntimeError NotImplementedError AttributeError StopIteration""".split())
OWN_METHODS = set("""append clear copy count endswith extend find get index insert isalnum isalpha isdigit islower
isspace isupper items join keys ljust lower lstrip partition pop remove replace reverse rfind rjust rpartition rsplit
rstrip setdefault split splitlines startswith strip update upper values zfill bit_length""".split())
WORDS_OUT = set("""type typing typing_extensions enum Enum IntEnum StrEnum Flag IntFlag Generic Protocol ABC ABCMeta
namedtuple NamedTuple TypedDict TYPE_CHECKING abstractmethod""".split())
NAMES_OUT = set("""register mro elements open input version_info with_traceback add_note attrgetter breakpoint
builtins compile copyright credits delattr dir eval exec exit gc getattr globals hasattr help id importlib license
locals methodcaller os quit setattr super type vars sys""".split())
FORMS_OUT = (ast.With, ast.Match, ast.Delete, ast.Global, ast.Nonlocal, ast.Assert, ast.Yield, ast.YieldFrom,
             ast.AsyncFunctionDef, ast.Await, ast.AsyncFor, ast.AsyncWith, ast.SetComp, ast.DictComp,
             ast.GeneratorExp, ast.NamedExpr, ast.Starred, ast.Div, ast.Set, ast.Import, ast.AnnAssign, ast.MatMult)
TOP = (ast.ImportFrom, ast.FunctionDef, ast.ClassDef, ast.Assign)


def files():
    return sorted(path for path in PACKAGE.rglob("*") if "__pycache__" not in path.parts and path.is_file())


def trees():
    return [(path.name, ast.parse(path.read_text())) for path in files()]


def is_plain(node, defs):
    """Whether a value at a file's top is plain: numbers, texts, and lists, tuples, dicts of these or of defs."""
    if isinstance(node, (ast.Tuple, ast.List)):
        return all(is_plain(one, defs) for one in node.elts)
    if isinstance(node, ast.Dict):
        return all(is_plain(one, defs) for one in node.keys + node.values)
    if isinstance(node, ast.UnaryOp):
        return isinstance(node.op, ast.USub) and is_plain(node.operand, defs)
    return isinstance(node, ast.Constant) or isinstance(node, ast.Name) and node.id in defs


class Language(unittest.TestCase):
    def test_files_and_signs(self):
        self.assertTrue(files())
        for path in files():
            self.assertRegex(path.name, r"^([a-z][a-z0-9_]*|__init__|__main__)\.py$")
            self.assertNotIn(path.stem, dir(builtins))
            text = path.read_text()
            self.assertRegex(text, r"^[ -~\n]*$", path.name)
            rows = text.split("\n")
            self.assertLessEqual(len(rows), 400, path.name)
            self.assertLessEqual(max(len(row) for row in rows), 120, path.name)
            self.assertFalse(set(re.findall(r"\w+", text)) & WORDS_OUT, path.name)
            self.assertNotRegex(text, "dataclass|overload|contextmanager")

    def test_the_top_of_a_file(self):
        for name, tree in trees():
            self.assertTrue(ast.get_docstring(tree), name)
            bound, defs = [], []
            for node in tree.body[1:]:
                self.assertIsInstance(node, TOP, (name, node.lineno))
                if isinstance(node, ast.ImportFrom):
                    bound += [one.name for one in node.names]
                elif isinstance(node, ast.Assign):
                    self.assertTrue(is_plain(node.value, defs), (name, node.lineno))
                    bound.append(node.targets[0].id)
                else:
                    bound.append(node.name)
                    defs.append(node.name)
            self.assertEqual(len(bound), len(set(bound)), name)

    def test_imports(self):
        drawn = {}
        for name, tree in trees():
            drawn[name] = []
            for node in ast.walk(tree):
                if isinstance(node, ast.ImportFrom):
                    self.assertRegex(node.module, r"^rankedroom\.[a-z_]+$")
                    source = ast.parse((PACKAGE / (node.module.split(".")[1] + ".py")).read_text())
                    defined = [one.name for one in source.body if isinstance(one, (ast.FunctionDef, ast.ClassDef))]
                    defined += [one.targets[0].id for one in source.body if isinstance(one, ast.Assign)]
                    for one in node.names:
                        self.assertIn(one.name, defined, (name, node.lineno))
                        self.assertIsNone(one.asname)
                    drawn[name].append(node.module.split(".")[1] + ".py")
        while drawn:
            free = [name for name in drawn if not set(drawn[name]) & set(drawn)]
            self.assertTrue(free, f"files draw from one another: {sorted(drawn)}")
            for name in free:
                drawn.pop(name)

    def test_forms(self):
        for name, tree in trees():
            for node in ast.walk(tree):
                at = (name, getattr(node, "lineno", 0))
                self.assertNotIsInstance(node, FORMS_OUT, at)
                if isinstance(node, (ast.For, ast.While)):
                    self.assertFalse(node.orelse, at)
                if isinstance(node, ast.Assign):
                    self.assertEqual(len(node.targets), 1, at)
                if isinstance(node, ast.Constant):
                    self.assertNotIsInstance(node.value, (float, complex, bytes), at)
                if isinstance(node, ast.ListComp):
                    self.assertEqual(len(node.generators), 1, at)
                    self.assertLessEqual(len(node.generators[0].ifs), 1, at)
                if isinstance(node, ast.Compare) and any(isinstance(op, (ast.Is, ast.IsNot)) for op in node.ops):
                    self.assertIsInstance(node.comparators[0], ast.Constant, at)
                if isinstance(node, ast.FunctionDef):
                    self.assertLessEqual(node.end_lineno - node.lineno + 1, 40, at)
                    self.assertFalse(node.decorator_list, at)
                    given = node.args
                    self.assertFalse(given.vararg or given.kwarg or given.kwonlyargs or given.posonlyargs, at)

    def test_names(self):
        for name, tree in trees():
            for node in ast.walk(tree):
                at = (name, getattr(node, "lineno", 0))
                if isinstance(node, ast.Name):
                    self.assertNotIn(node.id, NAMES_OUT, at)
                    self.assertFalse(node.id.startswith("_"), at)
                    if node.id in dir(builtins):
                        self.assertIn(node.id, OWN_NAMES, at)
                        self.assertIsInstance(node.ctx, ast.Load, at)
                if isinstance(node, ast.arg):
                    self.assertNotIn(node.arg, dir(builtins), at)
                    self.assertFalse(node.arg.startswith("_"), at)
                if isinstance(node, ast.Call) and isinstance(node.func, ast.Attribute):
                    self.assertIn(node.func.attr, OWN_METHODS, at)
