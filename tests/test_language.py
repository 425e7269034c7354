"""The package's files against those rules of ../shared/LANGUAGE.md that can be read off their trees."""

import ast
import builtins
import pathlib
import re
import unittest

PACKAGE = pathlib.Path(__file__).resolve().parent.parent / "rootcourt"

OWN_NAMES = set("""len range enumerate zip min max sum abs sorted reversed int str bool list tuple dict set frozenset
isinstance ord repr any all divmod Exception ValueError TypeError KeyError IndexError LookupError ZeroDivisionError
ArithmeticError OverflowError RuntimeError NotImplementedError AttributeError StopIteration""".split())

OWN_METHODS = set("""append clear copy count endswith extend find get index insert isalnum isalpha isdigit islower
isspace isupper items join keys ljust lower lstrip partition pop remove replace reverse rfind rjust rpartition rsplit
rstrip setdefault split splitlines startswith strip update upper values zfill bit_length""".split())

TWO_UNDERSCORES = set("__init__ __eq__ __repr__ __str__ __len__".split())

STATEMENTS = (ast.Assign, ast.AugAssign, ast.If, ast.While, ast.For, ast.Return, ast.Break, ast.Continue, ast.Pass,
              ast.Raise, ast.Try, ast.FunctionDef)

EXPRESSIONS = (ast.BinOp, ast.UnaryOp, ast.BoolOp, ast.Compare, ast.IfExp, ast.Call, ast.Attribute, ast.Subscript,
               ast.Slice, ast.Name, ast.Constant, ast.List, ast.Tuple, ast.Dict, ast.Set, ast.ListComp, ast.Lambda,
               ast.JoinedStr, ast.FormattedValue)

FORBIDDEN_WORDS = re.compile(r"\b(type|typing|typing_extensions|enum|Enum|IntEnum|StrEnum|Flag|IntFlag|Generic|Protocol"
                             r"|ABC|ABCMeta|namedtuple|NamedTuple|TypedDict|TYPE_CHECKING|abstractmethod)\b"
                             r"|dataclass|overload|contextmanager")

WALKED = ("zip", "enumerate", "reversed", "range")


def files():
    return sorted(PACKAGE.rglob("*.py"))


def tree_of(path):
    return ast.parse(path.read_text(encoding="utf-8"))


def defined_at_top(tree):
    names = {}
    for node in tree.body:
        if isinstance(node, (ast.FunctionDef, ast.ClassDef)):
            names[node.name] = node
        if isinstance(node, ast.Assign):
            names[node.targets[0].id] = node
    return names


def imports_of(tree):
    return [node for node in tree.body if isinstance(node, ast.ImportFrom)]


def bound_in(function):
    names = []
    for node in ast.walk(function):
        if isinstance(node, ast.arg):
            names.append(node.arg)
        if isinstance(node, ast.Name) and isinstance(node.ctx, ast.Store):
            names.append(node.id)
    return names


def own_attributes(tree):
    """The methods of a file's classes, and the values that they give to their objects."""
    names = {node.attr for node in ast.walk(tree) if isinstance(node, ast.Attribute) and isinstance(node.ctx, ast.Store)}
    for node in ast.walk(tree):
        if isinstance(node, ast.ClassDef):
            names |= {inner.name for inner in node.body if isinstance(inner, ast.FunctionDef)}
    return names


def parents_of(tree):
    return {id(child): node for node in ast.walk(tree) for child in ast.iter_child_nodes(node)}


class Language(unittest.TestCase):

    file = ""

    def each(self):
        for path in files():
            self.file = path.name
            yield path, tree_of(path)

    def _formatMessage(self, msg, standardMsg):
        return super()._formatMessage(msg, standardMsg) + " in " + self.file

    def test_files_and_signs(self):
        for path in PACKAGE.rglob("*"):
            if "__pycache__" not in path.parts:
                self.assertRegex(path.name, r"^[a-z_][a-z0-9_]*\.py$")
                self.assertFalse(path.stem in dir(builtins) or path.stem.startswith("test"))
        self.assertTrue((PACKAGE / "__init__.py").exists())
        for path, tree in self.each():
            text = path.read_text(encoding="utf-8")
            self.assertRegex(text, r"\A[ -~\n]*\Z")
            self.assertIsNone(FORBIDDEN_WORDS.search(text))

    def test_sizes(self):
        for path, tree in self.each():
            rows = path.read_text(encoding="utf-8").split("\n")
            self.assertLessEqual(len(rows), 400)
            self.assertLessEqual(max(len(row) for row in rows), 120)
            for node in ast.walk(tree):
                if isinstance(node, ast.FunctionDef):
                    self.assertLessEqual(node.end_lineno - node.lineno + 1, 40, node.name)

    def test_tops(self):
        for path, tree in self.each():
            self.assertIsNotNone(ast.get_docstring(tree))
            for node in tree.body[1:]:
                self.assertIsInstance(node, (ast.ImportFrom, ast.FunctionDef, ast.ClassDef, ast.Assign))
            bound = [node.name for node in tree.body if isinstance(node, (ast.FunctionDef, ast.ClassDef))]
            bound += [node.targets[0].id for node in tree.body if isinstance(node, ast.Assign)]
            bound += [alias.name for node in imports_of(tree) for alias in node.names]
            self.assertEqual(len(bound), len(set(bound)))

    def test_imports(self):
        drawn = {}
        for path, tree in self.each():
            drawn[path.stem] = []
            for node in imports_of(tree):
                self.assertEqual(node.level, 0)
                package, name = node.module.split(".")
                self.assertEqual(package, PACKAGE.name)
                drawn[path.stem].append(name)
                for alias in node.names:
                    self.assertIsNone(alias.asname)
                    self.assertIn(alias.name, defined_at_top(tree_of(PACKAGE / (name + ".py"))))
            used = {node.id for node in ast.walk(tree) if isinstance(node, ast.Name)}
            for node in imports_of(tree):
                for alias in node.names:
                    self.assertIn(alias.name, used)
        while drawn:
            ready = [name for name in drawn if not any(other in drawn for other in drawn[name])]
            self.assertTrue(ready, "files draw from one another in a ring")
            for name in ready:
                del drawn[name]

    def test_defs_and_classes(self):
        for path, tree in self.each():
            for node in ast.walk(tree):
                if isinstance(node, ast.FunctionDef):
                    given = node.args
                    self.assertFalse(node.decorator_list or given.vararg or given.kwarg or given.kwonlyargs
                                     or given.posonlyargs or node.returns)
                    self.assertFalse([one for one in given.args if one.annotation])
                    self.assertTrue(not node.name.startswith("_") or node.name in TWO_UNDERSCORES)
                if isinstance(node, ast.ClassDef):
                    self.assertFalse(node.decorator_list or node.keywords or len(node.bases) > 1)
                    for inner in node.body:
                        self.assertIsInstance(inner, (ast.FunctionDef, ast.Pass))

    def test_statements(self):
        for path, tree in self.each():
            for outer in ast.walk(tree):
                if not isinstance(outer, ast.FunctionDef):
                    continue
                for node in ast.walk(outer):
                    if isinstance(node, ast.Expr):
                        self.assertIsInstance(node.value, ast.Call, node.lineno)
                    elif isinstance(node, ast.stmt):
                        self.assertIsInstance(node, STATEMENTS, node.lineno)
                    if isinstance(node, ast.Assign):
                        self.assertEqual(len(node.targets), 1, node.lineno)
                    if isinstance(node, (ast.For, ast.While)):
                        self.assertFalse(node.orelse, node.lineno)
                    if isinstance(node, ast.Try):
                        self.assertFalse(node.finalbody, node.lineno)

    def test_expressions(self):
        for path, tree in self.each():
            for node in ast.walk(tree):
                if isinstance(node, ast.expr):
                    self.assertIsInstance(node, EXPRESSIONS, node.lineno)
                if isinstance(node, ast.Constant):
                    self.assertIsInstance(node.value, (int, str, bool, type(None)), node.lineno)
                    self.assertNotIn("%", str(node.value))
                if isinstance(node, (ast.BinOp, ast.AugAssign)):
                    self.assertNotIsInstance(node.op, (ast.Div, ast.MatMult), node.lineno)
                if isinstance(node, ast.BinOp) and isinstance(node.op, ast.Pow):
                    self.assertIsInstance(node.right, ast.Constant, node.lineno)
                if isinstance(node, ast.ListComp):
                    self.assertEqual(len(node.generators), 1, node.lineno)
                    self.assertLessEqual(len(node.generators[0].ifs), 1, node.lineno)
                if isinstance(node, ast.Compare):
                    for op, right in zip(node.ops, node.comparators):
                        if isinstance(op, (ast.Is, ast.IsNot)):
                            self.assertIn(getattr(right, "value", 0), (None, True, False), node.lineno)

    def test_names(self):
        for path, tree in self.each():
            top = list(defined_at_top(tree)) + [alias.name for node in imports_of(tree) for alias in node.names]
            for function in [node for node in ast.walk(tree) if isinstance(node, ast.FunctionDef)]:
                bound = bound_in(function)
                for name in bound:
                    self.assertRegex(name, r"^[A-Za-z][A-Za-z0-9_]*$")
                    self.assertNotIn(name, dir(builtins))
                    self.assertNotIn(name, top)
                for node in ast.walk(function):
                    if isinstance(node, ast.Name) and isinstance(node.ctx, ast.Load):
                        self.assertTrue(node.id in bound or node.id in top or node.id in OWN_NAMES, node.id)
            own = own_attributes(tree)
            self.assertFalse(own & OWN_METHODS)
            for node in ast.walk(tree):
                if isinstance(node, ast.Attribute) and isinstance(node.ctx, ast.Load):
                    self.assertTrue(node.attr in OWN_METHODS | TWO_UNDERSCORES | own, node.attr)

    def test_keywords(self):
        allowed = {"sorted": ("key", "reverse"), "min": ("key", "default"), "max": ("key", "default"),
                   "sum": ("start",), "enumerate": ("start",), "zip": ("strict",)}
        for path, tree in self.each():
            for node in ast.walk(tree):
                if isinstance(node, ast.Call):
                    self.assertFalse([one for one in node.args if isinstance(one, ast.Starred)], node.lineno)
                    for keyword in node.keywords:
                        self.assertIn(keyword.arg, allowed.get(getattr(node.func, "id", ""), ()), node.lineno)

    def test_walked_at_once(self):
        for path, tree in self.each():
            parents = parents_of(tree)
            for node in ast.walk(tree):
                if isinstance(node, ast.Call) and getattr(node.func, "id", "") in WALKED:
                    around = parents[id(node)]
                    walked = isinstance(around, (ast.For, ast.comprehension)) and around.iter is node
                    handed = isinstance(around, ast.Call) and getattr(around.func, "id", "") in (
                        "list", "tuple", "dict", "sorted", "sum", "any", "all", "enumerate", "zip", "min", "max")
                    self.assertTrue(walked or handed, node.lineno)


if __name__ == "__main__":
    unittest.main()
