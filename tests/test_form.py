"""The package's files keep to the small part of Python that the project allows, as far as a walk can see it."""

import ast
import builtins
import pathlib
import re
import unittest

PACKAGE = pathlib.Path(__file__).resolve().parent.parent / "wordmoves"
FILES = sorted(PACKAGE.glob("**/*.py"))

STATEMENTS = (ast.Assign, ast.AugAssign, ast.If, ast.While, ast.For, ast.Return, ast.Break, ast.Continue, ast.Pass,
              ast.Raise, ast.Try, ast.Expr, ast.FunctionDef, ast.ClassDef, ast.ImportFrom)
EXPRESSIONS = (ast.Constant, ast.List, ast.Tuple, ast.Dict, ast.BinOp, ast.UnaryOp, ast.Compare, ast.BoolOp, ast.IfExp,
               ast.Call, ast.Attribute, ast.Subscript, ast.Slice, ast.ListComp, ast.JoinedStr, ast.FormattedValue,
               ast.Name, ast.Lambda)
BUILTINS = """len range enumerate zip min max sum abs sorted reversed int str bool list tuple dict set isinstance ord repr
any all divmod Exception ValueError TypeError KeyError IndexError LookupError ZeroDivisionError ArithmeticError
OverflowError RuntimeError NotImplementedError""".split()
METHODS = """append clear copy count endswith extend find get index insert isalnum isalpha isdigit islower isspace isupper
items join keys ljust lower lstrip partition pop remove replace reverse rfind rjust rpartition rsplit rstrip setdefault
split splitlines startswith strip update upper values zfill bit_length""".split()
WORDS_NOWHERE = """type typing typing_extensions enum Enum IntEnum StrEnum Flag IntFlag Generic Protocol ABC ABCMeta
namedtuple NamedTuple TypedDict TYPE_CHECKING abstractmethod""".split()
NAMES_NOWHERE = "register mro elements open input version_info with_traceback add_note format format_map args".split()
METHODS_WITH_UNDERSCORES = ("__init__", "__eq__", "__repr__", "__str__", "__len__")


def trees():
    return [(path, ast.parse(path.read_text(encoding="utf-8"))) for path in FILES]


def nodes_of(kind):
    return [(path, node) for path, tree in trees() for node in ast.walk(tree) if isinstance(node, kind)]


def names_bound():
    """Every name that the package gives to something, with its file."""
    found = []
    for path, tree in trees():
        for node in ast.walk(tree):
            if isinstance(node, ast.Name) and isinstance(node.ctx, ast.Store):
                found.append((path, node.id))
            elif isinstance(node, (ast.FunctionDef, ast.ClassDef)):
                found.append((path, node.name))
            elif isinstance(node, ast.arg):
                found.append((path, node.arg))
            elif isinstance(node, ast.Attribute):
                found.append((path, node.attr))
    return found


class Files(unittest.TestCase):
    def test_nothing_but_plain_files(self):
        for path in PACKAGE.iterdir():
            if path.name != "__pycache__":
                self.assertRegex(path.name, r"\A([a-z][a-z0-9_]*|__init__|__main__)\.py\Z")
        self.assertTrue((PACKAGE / "__init__.py").exists())

    def test_sizes_and_signs(self):
        for path in FILES:
            text = path.read_text(encoding="utf-8")
            lines = text.split("\n")
            self.assertLessEqual(len(lines), 401, path)
            self.assertLessEqual(max(len(line) for line in lines), 120, path)
            self.assertRegex(text, r"\A[ -~\n]*\Z", path)
            for word in re.findall(r"\w+", text):
                self.assertNotIn(word, WORDS_NOWHERE, path)
                self.assertNotRegex(word, "dataclass|overload|contextmanager", path)

    def test_functions_are_small(self):
        for path, node in nodes_of(ast.FunctionDef):
            self.assertLessEqual(node.end_lineno - node.lineno + 1, 40, f"{path} {node.name}")


class Statements(unittest.TestCase):
    def test_kinds(self):
        for path, node in nodes_of(ast.stmt):
            self.assertIsInstance(node, STATEMENTS, f"{path} {node.lineno}")
        for path, node in nodes_of(ast.expr):
            self.assertIsInstance(node, EXPRESSIONS, f"{path} {node.lineno}")

    def test_details(self):
        for path, node in nodes_of((ast.stmt, ast.expr)):
            where = f"{path} {node.lineno}"
            if isinstance(node, (ast.For, ast.While)):
                self.assertEqual(node.orelse, [], where)
            if isinstance(node, ast.Assign):
                self.assertEqual(len(node.targets), 1, where)
            if isinstance(node, ast.Expr) and not isinstance(node.value, ast.Constant):
                self.assertIsInstance(node.value, ast.Call, where)
            if isinstance(node, ast.Try):
                self.assertEqual(node.finalbody, [], where)
                self.assertTrue(all(handler.type is not None for handler in node.handlers), where)
            if isinstance(node, ast.ListComp):
                self.assertEqual(len(node.generators), 1, where)
                self.assertLessEqual(len(node.generators[0].ifs), 1, where)
            if isinstance(node, ast.FormattedValue):
                self.assertIsInstance(node.value, ast.Name, where)
                self.assertIsNone(node.format_spec, where)
            if isinstance(node, ast.BinOp):
                self.assertNotIsInstance(node.op, (ast.Div, ast.Pow, ast.MatMult), where)
            if isinstance(node, ast.Constant):
                self.assertIn(type(node.value), (int, str, bool, type(None)), where)
            if isinstance(node, ast.Compare) and any(isinstance(op, (ast.Is, ast.IsNot)) for op in node.ops):
                self.assertIsInstance(node.comparators[0], ast.Constant, where)

    def test_functions_and_classes(self):
        for path, node in nodes_of(ast.FunctionDef):
            plain = node.args
            self.assertEqual(node.decorator_list, [], f"{path} {node.name}")
            self.assertEqual((plain.vararg, plain.kwarg, plain.kwonlyargs, plain.posonlyargs), (None, None, [], []))
        for path, node in nodes_of(ast.ClassDef):
            self.assertEqual(node.decorator_list + node.keywords, [], f"{path} {node.name}")
            self.assertLessEqual(len(node.bases), 1, f"{path} {node.name}")

    def test_top_of_a_file(self):
        for path, tree in trees():
            self.assertIsNotNone(ast.get_docstring(tree), path)
            for node in tree.body[1:]:
                self.assertIsInstance(node, (ast.ImportFrom, ast.FunctionDef, ast.ClassDef, ast.Assign), path)
            bound = [node.name for node in tree.body if isinstance(node, (ast.FunctionDef, ast.ClassDef))]
            bound += [node.targets[0].id for node in tree.body if isinstance(node, ast.Assign)]
            bound += [alias.name for node in tree.body if isinstance(node, ast.ImportFrom) for alias in node.names]
            self.assertEqual(len(bound), len(set(bound)), path)


class Names(unittest.TestCase):
    def test_imports(self):
        for path, node in nodes_of(ast.ImportFrom):
            self.assertEqual((node.level, node.module.split(".")[0]), (0, "wordmoves"), path)
            source = PACKAGE / (node.module.split(".")[1] + ".py")
            tops = ast.parse(source.read_text(encoding="utf-8")).body
            defined = [top.name for top in tops if isinstance(top, (ast.FunctionDef, ast.ClassDef))]
            defined += [top.targets[0].id for top in tops if isinstance(top, ast.Assign)]
            for alias in node.names:
                self.assertIn(alias.name, defined, path)

    def test_plain_names(self):
        for path, name in names_bound():
            if name not in METHODS_WITH_UNDERSCORES:
                self.assertRegex(name, r"\A[A-Za-z][A-Za-z0-9_]*\Z", path)
            self.assertNotIn(name, NAMES_NOWHERE, path)

    def test_no_name_of_pythons_own_is_given_another_meaning(self):
        for path, tree in trees():
            imported = [alias.name for node in tree.body if isinstance(node, ast.ImportFrom) for alias in node.names]
            classes = [node.name for node in tree.body if isinstance(node, ast.ClassDef)]
            for node in ast.walk(tree):
                name = node.arg if isinstance(node, ast.arg) else getattr(node, "id", "")
                if isinstance(node, ast.arg) or isinstance(getattr(node, "ctx", None), ast.Store):
                    self.assertNotIn(name, dir(builtins) + imported + classes, path)

    def test_names_of_pythons_own(self):
        for path, node in nodes_of(ast.Name):
            if hasattr(builtins, node.id):
                self.assertIn(node.id, BUILTINS, path)

    def test_methods(self):
        own = [item.name for path, node in nodes_of(ast.ClassDef) for item in node.body
               if isinstance(item, ast.FunctionDef)]
        for path, node in nodes_of(ast.Call):
            if isinstance(node.func, ast.Attribute):
                self.assertIn(node.func.attr, METHODS + own, f"{path} {node.lineno}")

    def test_no_name_is_a_method_and_a_value(self):
        methods = [item.name for path, node in nodes_of(ast.ClassDef) for item in node.body
                   if isinstance(item, ast.FunctionDef)]
        for path, node in nodes_of(ast.Attribute):
            if isinstance(node.ctx, ast.Store):
                self.assertNotIn(node.attr, methods, path)


if __name__ == "__main__":
    unittest.main()
