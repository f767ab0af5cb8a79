"""Whether the package keeps to the part of Python that it is written in, so far as a look at the code can tell."""

import ast
import builtins
import os
import re
import unittest

PACKAGE = os.path.join(os.path.dirname(os.path.dirname(os.path.abspath(__file__))), "kindbags")

STATEMENTS = (ast.Assign, ast.AugAssign, ast.If, ast.While, ast.For, ast.Return, ast.Break, ast.Continue, ast.Pass,
              ast.Raise, ast.Try, ast.Expr, ast.FunctionDef, ast.ClassDef, ast.ImportFrom)
OTHER_NODES = (ast.With, ast.Match, ast.Delete, ast.Global, ast.Nonlocal, ast.Assert, ast.Yield, ast.YieldFrom,
               ast.Await, ast.AsyncFor, ast.AsyncFunctionDef, ast.AsyncWith, ast.SetComp, ast.DictComp,
               ast.GeneratorExp, ast.NamedExpr, ast.Starred, ast.Div, ast.MatMult, ast.AnnAssign)
BUILT_IN = set("""len range enumerate zip min max sum abs sorted reversed int str bool list tuple dict set frozenset
    isinstance ord repr any all divmod Exception ValueError TypeError KeyError IndexError LookupError
    ZeroDivisionError ArithmeticError OverflowError RuntimeError NotImplementedError StopIteration""".split())
METHODS = set("""append clear copy count endswith extend find get index insert isalnum isalpha isdigit islower isspace
    isupper items join keys ljust lower lstrip partition pop remove replace reverse rfind rjust rpartition rsplit
    rstrip setdefault split splitlines startswith strip update upper values zfill bit_length""".split())
NEVER = re.compile(r"\b(type|typing|typing_extensions|enum|Enum|IntEnum|StrEnum|Flag|IntFlag|Generic|Protocol|ABC|ABCMeta"
                   r"|namedtuple|NamedTuple|TypedDict|TYPE_CHECKING|abstractmethod)\b|dataclass|overload|contextmanager")
WALKED = ("zip", "enumerate", "reversed", "range")
WALKERS = ("list", "tuple", "dict", "sorted", "sum", "any", "all", "enumerate", "zip", "min", "max")


def files():
    return sorted(os.path.join(folder, file) for folder, _, names in os.walk(PACKAGE) for file in names
                  if not folder.endswith("__pycache__"))


def text_of(path):
    with open(path, encoding="utf-8", newline="") as file:
        return file.read()


def is_docstring(node):
    return isinstance(node, ast.Expr) and isinstance(node.value, ast.Constant) and isinstance(node.value.value, str)


class LanguageTest(unittest.TestCase):
    def trees(self):
        for path in files():
            yield os.path.basename(path), ast.parse(text_of(path))

    def nodes(self):
        for file, tree in self.trees():
            for node in ast.walk(tree):
                yield file, node, f"{file}:{getattr(node, 'lineno', '?')}"

    def test_files(self):
        self.assertIn(os.path.join(PACKAGE, "__init__.py"), files())
        for path in files():
            self.assertRegex(os.path.basename(path), r"^([a-z][a-z0-9_]*|__init__|__main__)\.py$")
            self.assertFalse(hasattr(builtins, os.path.basename(path)[:-3].strip("_")), path)

    def test_signs_and_size(self):
        for path in files():
            rows = text_of(path).split("\n")
            self.assertLessEqual(len(rows), 400, path)
            for number, row in enumerate(rows, 1):
                self.assertLessEqual(len(row), 120, f"{path}:{number}")
                self.assertTrue(all(" " <= sign <= "~" for sign in row), f"{path}:{number}")
                self.assertIsNone(NEVER.search(row), f"{path}:{number}")

    def test_top_of_the_file(self):
        for file, tree in self.trees():
            bound = []
            for k, node in enumerate(tree.body):
                allowed = (ast.ImportFrom, ast.FunctionDef, ast.ClassDef, ast.Assign)
                self.assertTrue(isinstance(node, allowed) or k == 0 and is_docstring(node), f"{file}:{node.lineno}")
                if isinstance(node, ast.Assign):
                    bound.append(node.targets[0].id)
                elif isinstance(node, ast.ImportFrom):
                    bound.extend(alias.name for alias in node.names)
                elif not isinstance(node, ast.Expr):
                    bound.append(node.name)
            self.assertEqual(len(bound), len(set(bound)), file)

    def test_imports(self):
        own = {os.path.basename(path)[:-3] for path in files()}
        drawn = {}
        for file, node, at in self.nodes():
            self.assertNotIsInstance(node, ast.Import, at)
            if isinstance(node, ast.ImportFrom):
                self.assertEqual(node.level, 0, at)
                package, _, module = node.module.partition(".")
                self.assertEqual(package, "kindbags", at)
                self.assertIn(module, own, at)
                drawn.setdefault(file[:-3], set()).add(module)
                defined = {getattr(one, "name", None) or one.targets[0].id for one in self.top_of(module)}
                for alias in node.names:
                    self.assertIsNone(alias.asname, at)
                    self.assertIn(alias.name, defined, at)
        self.assertNotIn("__init__", drawn)
        for module in own:
            reached, pending = set(), list(drawn.get(module, ()))
            while pending:
                one = pending.pop()
                if one not in reached:
                    reached.add(one)
                    pending.extend(drawn.get(one, ()))
            self.assertNotIn(module, reached)

    def top_of(self, module):
        for file, tree in self.trees():
            if file == module + ".py":
                return [node for node in tree.body if isinstance(node, (ast.FunctionDef, ast.ClassDef, ast.Assign))]

    def test_statements(self):
        for file, node, at in self.nodes():
            self.assertNotIsInstance(node, OTHER_NODES, at)
            if isinstance(node, ast.stmt):
                self.assertIsInstance(node, STATEMENTS, at)
            if isinstance(node, ast.Expr):
                self.assertTrue(isinstance(node.value, ast.Call) or file and node.lineno == 1, at)
            if isinstance(node, ast.Assign):
                self.assertEqual(len(node.targets), 1, at)
                self.assertNotIsInstance(node.targets[0], (ast.Tuple, ast.List), at)
            if isinstance(node, (ast.For, ast.While)):
                self.assertEqual(node.orelse, [], at)
            if isinstance(node, ast.Try):
                self.assertEqual(node.finalbody, [], at)
            if isinstance(node, ast.ListComp):
                self.assertEqual(len(node.generators), 1, at)
                self.assertLessEqual(len(node.generators[0].ifs), 1, at)

    def test_defs(self):
        for file, node, at in self.nodes():
            if isinstance(node, (ast.FunctionDef, ast.Lambda)):
                given = node.args
                self.assertEqual((given.posonlyargs, given.vararg, given.kwonlyargs, given.kwarg), ([], None, [], None))
            if isinstance(node, (ast.FunctionDef, ast.ClassDef)):
                self.assertEqual(node.decorator_list, [], at)
                self.assertFalse(is_docstring(node.body[0]), at)
            if isinstance(node, ast.FunctionDef):
                self.assertLessEqual(node.end_lineno - node.lineno + 1, 40, at)
            if isinstance(node, ast.ClassDef):
                self.assertLessEqual(len(node.bases), 1, at)
                for one in node.body:
                    self.assertIsInstance(one, (ast.FunctionDef, ast.Pass), at)

    def test_values(self):
        for file, node, at in self.nodes():
            if isinstance(node, ast.Constant):
                self.assertIsInstance(node.value, (int, str, type(None)), at)
                self.assertNotIn("%", str(node.value), at)
            if isinstance(node, ast.FormattedValue):
                self.assertIsInstance(node.value, ast.Name, at)
                self.assertIsNone(node.format_spec, at)
            if isinstance(node, ast.Compare):
                for sign, other in zip(node.ops, node.comparators):
                    if isinstance(sign, (ast.Is, ast.IsNot)):
                        self.assertIsInstance(other, ast.Constant, at)
                        self.assertIn(other.value, (None, True, False), at)

    def test_names(self):
        own = {node.name for _, node, _ in self.nodes() if isinstance(node, ast.FunctionDef)}
        for file, tree in self.trees():
            imported = {alias.name for node in tree.body if isinstance(node, ast.ImportFrom) for alias in node.names}
            classes = {node.name for node in tree.body if isinstance(node, ast.ClassDef)}
            for node in ast.walk(tree):
                at = f"{file}:{getattr(node, 'lineno', '?')}"
                if isinstance(node, ast.Name) and isinstance(node.ctx, ast.Load) and hasattr(builtins, node.id):
                    self.assertIn(node.id, BUILT_IN, at)
                bound = None
                if isinstance(node, ast.Name) and isinstance(node.ctx, ast.Store):
                    bound = node.id
                elif isinstance(node, ast.arg):
                    bound = node.arg
                elif isinstance(node, ast.FunctionDef) and not node.name.startswith("__"):
                    bound = node.name
                if bound is not None:
                    self.assertRegex(bound, r"^[A-Za-z][A-Za-z0-9_]*$", at)
                    self.assertFalse(hasattr(builtins, bound), at)
                    self.assertNotIn(bound, imported | classes, at)
                if isinstance(node, ast.Call) and isinstance(node.func, ast.Attribute):
                    self.assertIn(node.func.attr, METHODS | own, at)

    def test_no_name_is_a_method_and_a_value(self):
        methods, values = set(), set()
        for file, node, at in self.nodes():
            if isinstance(node, ast.ClassDef):
                methods.update(one.name for one in node.body if isinstance(one, ast.FunctionDef))
            if isinstance(node, ast.Attribute) and isinstance(node.ctx, ast.Store):
                values.add(node.attr)
        self.assertEqual(methods & values, set())
        for value in sorted(values):
            self.assertFalse(any(hasattr(kind, value) for kind in (str, int, list, dict, set, bytes)), value)

    def test_walked_at_once(self):
        for file, tree in self.trees():
            allowed = set()
            for node in ast.walk(tree):
                if isinstance(node, (ast.For, ast.comprehension)):
                    allowed.add(node.iter)
                if isinstance(node, ast.Call) and isinstance(node.func, ast.Name) and node.func.id in WALKERS:
                    allowed.update(node.args[:1])
            for node in ast.walk(tree):
                if isinstance(node, ast.Call):
                    called = getattr(node.func, "id", None) or getattr(node.func, "attr", None)
                    if called in WALKED or called in ("items", "keys", "values"):
                        self.assertIn(node, allowed, f"{file}:{node.lineno}")

    def test_no_function_calls_itself(self):
        # What was told may nest deeper than calls may go.
        for file, tree in self.trees():
            for node in ast.walk(tree):
                if isinstance(node, ast.FunctionDef):
                    for call in ast.walk(node):
                        if isinstance(call, ast.Call):
                            called = getattr(call.func, "id", None) or getattr(call.func, "attr", None)
                            if called != "__init__":
                                self.assertNotEqual(called, node.name, f"{file}:{call.lineno}")


if __name__ == "__main__":
    unittest.main()
