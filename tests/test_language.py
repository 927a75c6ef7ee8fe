"""The package keeps to the small part of Python that it is written in."""

import ast
import builtins
import pathlib
import re
import unittest

PACKAGE = pathlib.Path(__file__).resolve().parent.parent / "rankedroom"
OWN_NAMES = set("""len range enumerate zip min max sum abs sorted reversed int str bool list tuple dict set frozenset
isinstance ord repr any all divmod Exception ValueError TypeError KeyError IndexError LookupError ZeroDivisionError
ArithmeticError OverflowError RuntimeError NotImplementedError AttributeError StopIteration""".split())
OWN_METHODS = set("""append clear copy count endswith extend find get index insert isalnum isalpha isdigit islower
isspace isupper items join keys ljust lower lstrip partition pop remove replace reverse rfind rjust rpartition rsplit
rstrip setdefault split splitlines startswith strip update upper values zfill bit_length""".split())
WORDS_OUT = set("""type typing typing_extensions enum Enum IntEnum StrEnum Flag IntFlag Generic Protocol ABC ABCMeta
namedtuple NamedTuple TypedDict TYPE_CHECKING abstractmethod""".split())
NAMES_OUT = set("""register mro elements open input version_info with_traceback add_note attrgetter breakpoint
builtins compile copyright credits delattr dir eval exec exit gc getattr globals hasattr help id importlib license
locals methodcaller os quit setattr super type vars sys""".split())
FORMS_OUT = (ast.With, ast.Match, ast.Delete, ast.Global, ast.Nonlocal, ast.Assert, ast.Yield, ast.YieldFrom,
             ast.AsyncFunctionDef, ast.Await, ast.AsyncFor, ast.AsyncWith, ast.SetComp, ast.DictComp,
             ast.GeneratorExp, ast.NamedExpr, ast.Starred, ast.Div, ast.Set, ast.Import, ast.AnnAssign, ast.MatMult)
TOP = (ast.ImportFrom, ast.FunctionDef, ast.ClassDef, ast.Assign)


def files():
    return sorted(path for path in PACKAGE.rglob("*") if "__pycache__" not in path.parts and path.is_file())


def trees():
    return [(path.name, ast.parse(path.read_text())) for path in files()]


def with_parents(tree):
    """Every node of the tree with the node around it."""
    return [(child, node) for node in ast.walk(tree) for child in ast.iter_child_nodes(node)]


def called(node):
    """The plain name that is called, or None."""
    return node.func.id if isinstance(node, ast.Call) and isinstance(node.func, ast.Name) else None


def is_plain(node, defs):
    """Whether a value at a file's top is plain: numbers, texts, and lists, tuples, dicts of these or of defs."""
    if isinstance(node, (ast.Tuple, ast.List)):
        return all(is_plain(one, defs) for one in node.elts)
    if isinstance(node, ast.Dict):
        return all(is_plain(one, defs) for one in node.keys + node.values)
    if isinstance(node, ast.UnaryOp):
        return isinstance(node.op, ast.USub) and is_plain(node.operand, defs)
    return isinstance(node, ast.Constant) or isinstance(node, ast.Name) and node.id in defs


class Language(unittest.TestCase):
    def test_files_and_signs(self):
        self.assertTrue(files())
        for path in files():
            self.assertRegex(path.name, r"^([a-z][a-z0-9_]*|__init__|__main__)\.py$")
            self.assertNotIn(path.stem, dir(builtins))
            text = path.read_text()
            self.assertRegex(text, r"^[ -~\n]*$", path.name)
            rows = text.split("\n")
            self.assertLessEqual(len(rows), 400, path.name)
            self.assertLessEqual(max(len(row) for row in rows), 120, path.name)
            self.assertFalse(set(re.findall(r"\w+", text)) & WORDS_OUT, path.name)
            self.assertNotRegex(text, "dataclass|overload|contextmanager")

    def test_the_top_of_a_file(self):
        for name, tree in trees():
            self.assertTrue(ast.get_docstring(tree), name)
            bound, defs = [], []
            for node in tree.body[1:]:
                self.assertIsInstance(node, TOP, (name, node.lineno))
                if isinstance(node, ast.ImportFrom):
                    bound += [one.name for one in node.names]
                elif isinstance(node, ast.Assign):
                    self.assertTrue(is_plain(node.value, defs), (name, node.lineno))
                    bound.append(node.targets[0].id)
                else:
                    bound.append(node.name)
                    defs.append(node.name)
            self.assertEqual(len(bound), len(set(bound)), name)

    def test_imports(self):
        drawn = {}
        for name, tree in trees():
            drawn[name] = []
            for node in ast.walk(tree):
                if isinstance(node, ast.ImportFrom):
                    self.assertRegex(node.module, r"^rankedroom\.[a-z_]+$")
                    source = ast.parse((PACKAGE / (node.module.split(".")[1] + ".py")).read_text())
                    defined = [one.name for one in source.body if isinstance(one, (ast.FunctionDef, ast.ClassDef))]
                    defined += [one.targets[0].id for one in source.body if isinstance(one, ast.Assign)]
                    for one in node.names:
                        self.assertIn(one.name, defined, (name, node.lineno))
                        self.assertIsNone(one.asname)
                    drawn[name].append(node.module.split(".")[1] + ".py")
        while drawn:
            free = [name for name in drawn if not set(drawn[name]) & set(drawn)]
            self.assertTrue(free, f"files draw from one another: {sorted(drawn)}")
            for name in free:
                drawn.pop(name)

    def test_forms(self):
        for name, tree in trees():
            for node in ast.walk(tree):
                at = (name, getattr(node, "lineno", 0))
                self.assertNotIsInstance(node, FORMS_OUT, at)
                if isinstance(node, (ast.For, ast.While)):
                    self.assertFalse(node.orelse, at)
                if isinstance(node, ast.Assign):
                    self.assertEqual(len(node.targets), 1, at)
                if isinstance(node, ast.Constant):
                    self.assertNotIsInstance(node.value, (float, complex, bytes), at)
                if isinstance(node, ast.ListComp):
                    self.assertEqual(len(node.generators), 1, at)
                    self.assertLessEqual(len(node.generators[0].ifs), 1, at)
                if isinstance(node, ast.Compare) and any(isinstance(op, (ast.Is, ast.IsNot)) for op in node.ops):
                    self.assertIsInstance(node.comparators[0], ast.Constant, at)
                if isinstance(node, ast.FunctionDef):
                    self.assertLessEqual(node.end_lineno - node.lineno + 1, 40, at)
                    self.assertFalse(node.decorator_list, at)
                    given = node.args
                    self.assertFalse(given.vararg or given.kwarg or given.kwonlyargs or given.posonlyargs, at)

    def test_names(self):
        for name, tree in trees():
            for node in ast.walk(tree):
                at = (name, getattr(node, "lineno", 0))
                if isinstance(node, ast.Name):
                    self.assertNotIn(node.id, NAMES_OUT, at)
                    self.assertFalse(node.id.startswith("_"), at)
                    if node.id in dir(builtins):
                        self.assertIn(node.id, OWN_NAMES, at)
                        self.assertIsInstance(node.ctx, ast.Load, at)
                if isinstance(node, ast.arg):
                    self.assertNotIn(node.arg, dir(builtins), at)
                    self.assertFalse(node.arg.startswith("_"), at)
                if isinstance(node, ast.Call) and isinstance(node.func, ast.Attribute):
                    if node.func.attr != "__init__":
                        self.assertIn(node.func.attr, OWN_METHODS, at)

    def test_no_local_hides_another_name(self):
        for name, tree in trees():
            taken = set(dir(builtins))
            for node in tree.body:
                if isinstance(node, ast.ImportFrom):
                    taken |= {one.name for one in node.names}
                elif isinstance(node, (ast.FunctionDef, ast.ClassDef)):
                    taken.add(node.name)
            for node in ast.walk(tree):
                if isinstance(node, (ast.FunctionDef, ast.Lambda)):
                    for one in ast.walk(node):
                        if isinstance(one, ast.Name) and isinstance(one.ctx, ast.Store):
                            self.assertNotIn(one.id, taken, (name, one.lineno))
                        if isinstance(one, ast.arg):
                            self.assertNotIn(one.arg, taken, (name, one.lineno))

    def test_lists_and_dicts_of_the_top_are_only_read(self):
        for name, tree in trees():
            tops = {node.targets[0].id: node.value for node in tree.body if isinstance(node, ast.Assign)}
            for value in tops.values():
                inner = [node for node in ast.walk(value) if isinstance(node, (ast.List, ast.Dict))]
                self.assertFalse([node for node in inner if node is not value], name)
            kept = {one for one, value in tops.items() if isinstance(value, (ast.List, ast.Dict))}
            for node, around in with_parents(tree):
                if isinstance(node, ast.Name) and node.id in kept and isinstance(node.ctx, ast.Load):
                    read = isinstance(around, ast.Compare) or (isinstance(around, ast.Subscript)
                                                               and isinstance(around.ctx, ast.Load))
                    self.assertTrue(read, (name, node.lineno))
                if isinstance(node, ast.alias):
                    self.assertFalse(self.is_list_or_dict(node.name), (name, node.name))

    def is_list_or_dict(self, wanted):
        return any(isinstance(node, ast.Assign) and node.targets[0].id == wanted
                   and isinstance(node.value, (ast.List, ast.Dict)) for _, tree in trees() for node in tree.body)

    def test_names_of_python_are_called_and_walked_on_the_spot(self):
        walkers = ("list", "tuple", "dict", "sorted", "sum", "any", "all", "enumerate", "zip")
        keywords = {"sorted": {"key", "reverse"}, "min": {"key", "default"}, "max": {"key", "default"},
                    "sum": {"start"}, "enumerate": {"start"}, "zip": {"strict"}}
        for name, tree in trees():
            for node, around in with_parents(tree):
                at = (name, getattr(node, "lineno", 0))
                if isinstance(node, ast.Name) and node.id in OWN_NAMES and not node.id.endswith("Error"):
                    self.assertTrue(isinstance(around, ast.Call) and around.func is node, at)
                if called(node) in ("zip", "enumerate", "reversed", "range"):
                    on_the_spot = isinstance(around, (ast.For, ast.comprehension)) and around.iter is node
                    self.assertTrue(on_the_spot or called(around) in walkers, at)
                if called(node) == "set":
                    self.assertTrue(called(around) in ("sorted", "len") or isinstance(around, ast.Compare), at)
                if isinstance(node, ast.Call) and node.keywords:
                    self.assertLessEqual({one.arg for one in node.keywords}, keywords.get(called(node), set()), at)

    def test_classes_and_their_values(self):
        classes, methods, values = set(), set(), set()
        of_python = {one for kind in (str, int, list, tuple, dict, set, bytes) for one in dir(kind)}
        for name, tree in trees():
            for node in ast.walk(tree):
                if isinstance(node, ast.ClassDef):
                    classes.add(node.name)
                    self.assertIn(node, tree.body)
                    self.assertLessEqual(len(node.bases), 1)
                    self.assertFalse(node.keywords or node.decorator_list)
                    methods |= {one.name for one in node.body if isinstance(one, ast.FunctionDef)}
                    for one in node.body[1:]:
                        self.assertIsInstance(one, ast.FunctionDef, (name, one.lineno))
                if isinstance(node, ast.Attribute) and isinstance(node.ctx, ast.Store):
                    self.assertIsInstance(node.value, ast.Name, (name, node.lineno))
                    self.assertNotIn(node.attr, of_python, (name, node.lineno))
                    values.add(node.attr)
        self.assertFalse(methods & values)
        for name, tree in trees():
            for node, around in with_parents(tree):
                if isinstance(node, ast.Name) and node.id in classes:
                    right = isinstance(around, (ast.Call, ast.ClassDef)) or isinstance(around, ast.Attribute)
                    self.assertTrue(right, (name, node.lineno))
                    if isinstance(around, ast.Attribute):
                        self.assertEqual(around.attr, "__init__", (name, node.lineno))

    def test_what_a_loop_walks_is_not_changed_in_it(self):
        changing = ("append", "clear", "extend", "insert", "pop", "remove", "reverse", "setdefault", "update")
        for name, tree in trees():
            for loop in ast.walk(tree):
                if not isinstance(loop, ast.For):
                    continue
                walked = {ast.dump(node) for node in ast.walk(loop.iter) if isinstance(node, (ast.Name, ast.Attribute))}
                for node in [one for part in loop.body for one in ast.walk(part)]:
                    if isinstance(node, ast.Call) and isinstance(node.func, ast.Attribute):
                        if node.func.attr in changing:
                            self.assertNotIn(ast.dump(node.func.value), walked, (name, node.lineno))
                    if isinstance(node, ast.Subscript) and isinstance(node.ctx, ast.Store):
                        self.assertNotIn(ast.dump(node.value), walked, (name, node.lineno))

    def test_numbers_and_texts(self):
        for name, tree in trees():
            lambdas = [node.lineno for node in ast.walk(tree) if isinstance(node, ast.Lambda)]
            self.assertEqual(len(lambdas), len(set(lambdas)), name)
            for node in ast.walk(tree):
                if isinstance(node, ast.Constant) and isinstance(node.value, str):
                    self.assertNotIn("%", node.value, (name, node.lineno))
                self.assertNotIsInstance(node, (ast.Pow, ast.JoinedStr, ast.Try, ast.Raise), name)
