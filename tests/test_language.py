"""Looks through the package's own files for what LANGUAGE.md leaves out, as far as a test sees it."""

import ast
import builtins
import pathlib
import re
import unittest

PACKAGE = pathlib.Path(__file__).resolve().parent.parent / "ringwords"
FILES = sorted(PACKAGE.glob("*.py"))

STATEMENTS = (
    ast.Assign, ast.AugAssign, ast.If, ast.While, ast.For, ast.Return, ast.Break, ast.Continue, ast.Pass, ast.Raise,
    ast.Try, ast.Expr, ast.FunctionDef, ast.ClassDef, ast.ImportFrom)
EXPRESSIONS = (
    ast.Constant, ast.Name, ast.List, ast.Tuple, ast.Dict, ast.BinOp, ast.UnaryOp, ast.BoolOp, ast.Compare, ast.IfExp,
    ast.Call, ast.Attribute, ast.Subscript, ast.Slice, ast.ListComp, ast.JoinedStr, ast.FormattedValue, ast.Lambda)
PYTHONS = (
    "len range enumerate zip min max sum abs sorted reversed int str bool list tuple dict set frozenset isinstance ord "
    "repr any all divmod Exception ValueError TypeError KeyError IndexError LookupError ZeroDivisionError "
    "ArithmeticError OverflowError RuntimeError NotImplementedError AttributeError StopIteration").split()
METHODS = (
    "append clear copy count endswith extend find get index insert isalnum isalpha isdigit islower isspace isupper "
    "items join keys ljust lower lstrip partition pop remove replace reverse rfind rjust rpartition rsplit rstrip "
    "setdefault split splitlines startswith strip update upper values zfill bit_length __init__").split()
BARRED_WORDS = (
    "type typing typing_extensions enum Enum IntEnum StrEnum Flag IntFlag Generic Protocol ABC ABCMeta namedtuple "
    "NamedTuple TypedDict TYPE_CHECKING abstractmethod").split()
BARRED_PARTS = ("dataclass", "overload", "contextmanager")
BARRED_NAMES = (
    "register mro elements open input version_info with_traceback add_note attrgetter breakpoint builtins compile "
    "copyright credits delattr dir eval exec exit gc getattr globals hasattr help id importlib license locals "
    "methodcaller os quit setattr super sys vars __name__ format format_map").split()
DUNDERS = ("__init__", "__eq__", "__repr__", "__str__", "__len__")
ON_THE_SPOT = ("zip", "enumerate", "reversed", "range")
WALKERS = ("list", "tuple", "dict", "sorted", "sum", "any", "all", "enumerate", "zip", "min", "max")
FROZEN = (ast.Constant, ast.Tuple, ast.List, ast.Dict, ast.Name, ast.UnaryOp, ast.Load, ast.USub)


def parents(tree):
    """For each node the one around it."""
    return {child: node for node in ast.walk(tree) for child in ast.iter_child_nodes(node)}


def is_docstring(node):
    return isinstance(node, ast.Expr) and isinstance(node.value, ast.Constant) and isinstance(node.value.value, str)


def bound_names(tree):
    """All names that are given a value, as parameters, targets or walked ones."""
    names = [node.id for node in ast.walk(tree) if isinstance(node, ast.Name) and isinstance(node.ctx, ast.Store)]
    names += [node.arg for node in ast.walk(tree) if isinstance(node, ast.arg)]
    return names + [node.name for node in ast.walk(tree) if isinstance(node, ast.ExceptHandler) and node.name]


class Language(unittest.TestCase):
    def setUp(self):
        self.texts = {path.stem: path.read_text(encoding="utf-8") for path in FILES}
        self.trees = {stem: ast.parse(text) for stem, text in self.texts.items()}

    def nodes(self, *kinds):
        return [(stem, node) for stem, tree in self.trees.items() for node in ast.walk(tree) if isinstance(node, kinds)]

    def assertNone(self, found):
        self.assertEqual([(stem, getattr(node, "lineno", 0), ast.dump(node)[:80]) for stem, node in found], [])

    def test_files(self):
        held = sorted(path.name for path in PACKAGE.iterdir() if path.name != "__pycache__")
        self.assertEqual(held, [path.name for path in FILES])
        self.assertIn("__init__.py", held)
        for stem in self.texts:
            self.assertRegex(stem, r"^(__init__|[a-z][a-z0-9_]*)$")
            self.assertNotIn(stem, dir(builtins))

    def test_sizes_and_signs(self):
        for stem, text in self.texts.items():
            rows = text.split("\n")
            self.assertLessEqual(len(rows), 400, stem)
            self.assertLessEqual(max(len(row) for row in rows), 120, stem)
            self.assertIsNone(re.search(r"[^ -~\n]", text), stem)
        for stem, node in self.nodes(ast.FunctionDef):
            self.assertLessEqual(node.end_lineno - node.lineno + 1, 40, (stem, node.name))

    def test_words_that_stand_nowhere(self):
        for stem, text in self.texts.items():
            for word in BARRED_WORDS:
                self.assertIsNone(re.search(rf"\b{word}\b", text), (stem, word))
            for part in BARRED_PARTS:
                self.assertNotIn(part, text)

    def test_imports(self):
        drawn = {}
        for stem, tree in self.trees.items():
            drawn[stem] = []
            for node in ast.walk(tree):
                self.assertNotIsInstance(node, ast.Import, stem)
                if isinstance(node, ast.ImportFrom):
                    self.assertIn(node, tree.body)
                    self.assertEqual(node.level, 0)
                    package, held, source = node.module.partition(".")
                    self.assertEqual(package, "ringwords")
                    drawn[stem].append(source)
                    made = {name.name for name in self.trees[source].body if hasattr(name, "name")}
                    made |= {row.targets[0].id for row in self.trees[source].body if isinstance(row, ast.Assign)}
                    for alias in node.names:
                        self.assertIn(alias.name, made, (stem, alias.name))
                        self.assertIsNone(alias.asname)
        while drawn:
            free = [stem for stem in drawn if not drawn[stem]]
            self.assertTrue(free, drawn)
            drawn = {stem: [part for part in drawn[stem] if part not in free] for stem in drawn if stem not in free}

    def test_top_of_a_module(self):
        for stem, tree in self.trees.items():
            self.assertTrue(is_docstring(tree.body[0]), stem)
            names = []
            for node in tree.body[1:]:
                self.assertIsInstance(node, (ast.ImportFrom, ast.FunctionDef, ast.ClassDef, ast.Assign), stem)
                if isinstance(node, ast.Assign):
                    self.assertTrue(all(isinstance(part, FROZEN) for part in ast.walk(node.value)), stem)
                    names.append(node.targets[0].id)
                elif isinstance(node, ast.ImportFrom):
                    names += [alias.name for alias in node.names]
                else:
                    names.append(node.name)
            self.assertEqual(len(names), len(set(names)), stem)
            self.assertFalse(set(names) & set(dir(builtins)), stem)

    def test_statements_and_expressions(self):
        for stem, node in self.nodes(ast.stmt):
            self.assertIsInstance(node, STATEMENTS, (stem, node.lineno))
        for stem, node in self.nodes(ast.expr):
            self.assertIsInstance(node, EXPRESSIONS, (stem, node.lineno))
        self.assertNone([(stem, node) for stem, node in self.nodes(ast.Expr)
                         if not isinstance(node.value, ast.Call) and not is_docstring(node)])
        self.assertNone([(stem, node) for stem, node in self.nodes(ast.For, ast.While) if node.orelse])
        self.assertNone([(stem, node) for stem, node in self.nodes(ast.Try) if node.finalbody])
        self.assertNone([(stem, node) for stem, node in self.nodes(ast.Assign)
                         if len(node.targets) > 1 or isinstance(node.targets[0], ast.Tuple)])
        self.assertNone([(stem, node) for stem, node in self.nodes(ast.comprehension)
                         if len(node.ifs) > 1 or node.is_async])
        self.assertNone([(stem, node) for stem, node in self.nodes(ast.ListComp) if len(node.generators) > 1])
        self.assertNone([(stem, node) for stem, node in self.nodes(ast.Div, ast.MatMult, ast.Pow, ast.Starred)])
        self.assertNone([(stem, node) for stem, node in self.nodes(ast.Constant)
                         if not isinstance(node.value, (int, str, type(None)))])
        self.assertNone([(stem, node) for stem, node in self.nodes(ast.Constant) if "%" in str(node.value)])

    def test_functions_and_classes(self):
        for stem, node in self.nodes(ast.FunctionDef):
            self.assertEqual(node.decorator_list, [])
            self.assertIsNone(node.returns)
            self.assertIsNone(node.args.vararg or node.args.kwarg)
            self.assertEqual(node.args.kwonlyargs + node.args.posonlyargs, [])
        self.assertNone([(stem, node) for stem, node in self.nodes(ast.arg) if node.annotation])
        for stem, node in self.nodes(ast.ClassDef):
            self.assertIn(node, self.trees[stem].body)
            self.assertLessEqual(len(node.bases), 1)
            self.assertEqual(node.decorator_list + node.keywords, [])
            for part in node.body:
                self.assertTrue(is_docstring(part) or isinstance(part, ast.FunctionDef), (stem, node.name))

    def test_methods_are_no_values(self):
        methods = [part.name for stem, node in self.nodes(ast.ClassDef) for part in node.body if isinstance(part, ast.FunctionDef)]
        values = [node.attr for stem, node in self.nodes(ast.Attribute) if isinstance(node.ctx, ast.Store)]
        self.assertIn("say", methods)
        self.assertIn("place", values)
        self.assertEqual(set(methods) & set(values), set())

    def test_names(self):
        for stem, tree in self.trees.items():
            taken = {alias.name for node in tree.body if isinstance(node, ast.ImportFrom) for alias in node.names}
            taken |= {node.name for node in tree.body if isinstance(node, ast.ClassDef)}
            defined = {node.name for node in tree.body if isinstance(node, ast.FunctionDef)}
            for name in bound_names(tree):
                self.assertRegex(name, r"^[A-Za-z][A-Za-z0-9_]*$", stem)
                self.assertNotIn(name, dir(builtins), stem)
                self.assertNotIn(name, taken | defined, stem)
            known = taken | defined | set(bound_names(tree)) | set(PYTHONS)
            for node in ast.walk(tree):
                if isinstance(node, ast.Name):
                    self.assertIn(node.id, known, (stem, node.lineno))
                    self.assertNotIn(node.id, BARRED_NAMES, (stem, node.lineno))
                if isinstance(node, (ast.FunctionDef, ast.ClassDef)):
                    plain = not node.name.startswith("_") or node.name in DUNDERS
                    self.assertTrue(plain, (stem, node.name))

    def test_attributes_and_methods(self):
        own = [part.name for stem, node in self.nodes(ast.ClassDef) for part in node.body if isinstance(part, ast.FunctionDef)]
        for stem, tree in self.trees.items():
            around = parents(tree)
            for node in ast.walk(tree):
                if isinstance(node, ast.Attribute):
                    self.assertNotIn(node.attr, BARRED_NAMES, (stem, node.lineno))
                    called = isinstance(around[node], ast.Call) and around[node].func is node
                    if called:
                        self.assertIn(node.attr, METHODS + own, (stem, node.lineno))
                    else:
                        self.assertNotIn(node.attr, METHODS + own, (stem, node.lineno))

    def test_walked_on_the_spot(self):
        for stem, tree in self.trees.items():
            around = parents(tree)
            for node in ast.walk(tree):
                if isinstance(node, ast.Call) and isinstance(node.func, ast.Name) and node.func.id in ON_THE_SPOT:
                    holder = around[node]
                    walked = isinstance(holder, (ast.For, ast.comprehension)) and holder.iter is node
                    handed = isinstance(holder, ast.Call) and getattr(holder.func, "id", "") in WALKERS
                    self.assertTrue(walked or handed, (stem, node.lineno))
                if isinstance(node, ast.Call) and isinstance(node.func, ast.Name) and node.func.id == "set":
                    holder = around[node]
                    asked = isinstance(holder, ast.Compare)
                    handed = isinstance(holder, ast.Call) and getattr(holder.func, "id", "") in ("sorted", "len")
                    self.assertTrue(asked or handed, (stem, node.lineno))

    def test_is_and_errors(self):
        for stem, node in self.nodes(ast.Compare):
            for sign, side in zip(node.ops, node.comparators):
                if isinstance(sign, (ast.Is, ast.IsNot)):
                    self.assertIsInstance(side, ast.Constant)
                    self.assertIn(side.value, (None, True, False))
        for stem, node in self.nodes(ast.ExceptHandler):
            self.assertIsInstance(node.type, ast.Name, stem)
            self.assertTrue(node.type.id.startswith("No"), (stem, node.lineno))
        for stem, node in self.nodes(ast.Raise):
            self.assertIsInstance(node.exc, ast.Call, (stem, node.lineno))


if __name__ == "__main__":
    unittest.main()
