"""The part of Python that the package keeps to, as far as it can be seen in the files; the letters are its rules' numbers."""

import ast
import builtins
import pathlib
import re
import unittest

FOLDER = pathlib.Path(__file__).resolve().parent.parent / "pagenames"
FILES = sorted(path for path in FOLDER.rglob("*") if "__pycache__" not in path.parts)

ALLOWED_NODES = """
Module FunctionDef arguments arg ClassDef Assign AugAssign If While For Return Break Continue Pass Raise Try
ExceptHandler Expr Call ImportFrom alias Lambda Name Attribute Subscript Slice Constant List Tuple Dict ListComp
comprehension BinOp UnaryOp BoolOp Compare IfExp JoinedStr FormattedValue Load Store And Or Not USub Add Sub Mult
FloorDiv Mod Pow BitAnd BitOr BitXor Invert LShift RShift Eq NotEq Lt LtE Gt GtE Is IsNot In NotIn keyword
""".split()
OWN_NAMES = """
len range enumerate zip min max sum abs sorted reversed int str bool list tuple dict set frozenset isinstance ord repr
any all divmod Exception ValueError TypeError KeyError IndexError LookupError ZeroDivisionError ArithmeticError
OverflowError RuntimeError NotImplementedError AttributeError StopIteration
""".split()
METHODS = """
append clear copy count endswith extend find get index insert isalnum isalpha isdigit islower isspace isupper items
join keys ljust lower lstrip partition pop remove replace reverse rfind rjust rpartition rsplit rstrip setdefault split
splitlines startswith strip update upper values zfill bit_length
""".split()
NOT_WORDS = """
type typing typing_extensions enum Enum IntEnum StrEnum Flag IntFlag Generic Protocol ABC ABCMeta namedtuple NamedTuple
TypedDict TYPE_CHECKING abstractmethod
""".split()


def nodes_of(kind):
    return [(path.name, node) for path in FILES for node in ast.walk(ast.parse(path.read_text())) if isinstance(node, kind)]


def drawn_from(path):
    rows = [node for node in ast.parse(path.read_text()).body if isinstance(node, ast.ImportFrom)]
    return [row.module.split(".")[-1] for row in rows]


class Language(unittest.TestCase):
    def test_files_and_signs(self):
        for path in FILES:
            self.assertTrue(path.is_file() and re.fullmatch("[a-z_][a-z0-9_]*[.]py", path.name), f"L1 L14 {path}")
            self.assertRegex(path.read_bytes(), rb"\A[ -~\n]*\Z", f"L14 {path}")
            lines = path.read_text().splitlines()
            self.assertLessEqual(len(lines), 400, f"L10 {path}")
            self.assertLessEqual(max(map(len, lines), default=0), 120, f"L10 {path}")

    def test_words(self):
        for path in FILES:
            text = path.read_text()
            self.assertEqual(sorted(set(re.findall(r"\w+", text)) & set(NOT_WORDS)), [], f"L17 {path}")
            self.assertNotRegex(text, "dataclass|overload|contextmanager", f"L17 {path}")

    def test_functions_are_short_and_plain(self):
        for file, node in nodes_of(ast.FunctionDef):
            place = f"{file}:{node.lineno}"
            self.assertLessEqual(node.end_lineno - node.lineno + 1, 40, f"L10 {place}")
            self.assertEqual(node.decorator_list, [], f"L4 {place}")
            self.assertFalse(node.args.vararg or node.args.kwarg or node.args.kwonlyargs or node.args.posonlyargs, f"L4 {place}")

    def test_nodes(self):
        for file, node in nodes_of(ast.AST):
            place = f"{file}:{getattr(node, 'lineno', 0)}"
            self.assertIn(type(node).__name__, ALLOWED_NODES, f"L6 L7 {place}")
            if isinstance(node, ast.Assign):
                self.assertEqual(len(node.targets), 1, f"L6 {place}")
            if isinstance(node, (ast.For, ast.While)):
                self.assertEqual(node.orelse, [], f"L6 {place}")
            if isinstance(node, ast.ListComp):
                self.assertTrue(len(node.generators) == 1 and len(node.generators[0].ifs) <= 1, f"L7 {place}")
            if isinstance(node, ast.FormattedValue):
                self.assertTrue(isinstance(node.value, ast.Name) and node.format_spec is None, f"L7 {place}")
            if isinstance(node, ast.Constant):
                self.assertTrue(node.value is None or isinstance(node.value, (bool, int, str)), f"L7 {place}")
                self.assertNotIn("%", str(node.value), f"L27 {place}")

    def test_tops_of_files_and_classes(self):
        for path in FILES:
            for place, node in enumerate(ast.parse(path.read_text()).body):
                where = f"{path.name}:{node.lineno}"
                self.assertIsInstance(node, (ast.Expr, ast.ImportFrom, ast.FunctionDef, ast.ClassDef, ast.Assign), f"L3 {where}")
                if isinstance(node, ast.Expr):
                    self.assertTrue(place == 0 and isinstance(node.value, ast.Constant), f"L3 {where}")
                if isinstance(node, ast.Assign):
                    self.assertIsInstance(node.value, (ast.Constant, ast.Tuple), f"L3 {where}")
        for file, node in nodes_of(ast.ClassDef):
            where = f"{file}:{node.lineno}"
            self.assertTrue(len(node.bases) <= 1 and not node.keywords and not node.decorator_list, f"L5 {where}")
            self.assertTrue(all(isinstance(part, (ast.FunctionDef, ast.Pass)) for part in node.body), f"L5 {where}")

    def test_no_annotations(self):
        for file, node in nodes_of((ast.FunctionDef, ast.arg)):
            noted = node.returns if isinstance(node, ast.FunctionDef) else node.annotation
            self.assertIsNone(noted, f"L21 {file}:{node.lineno}")

    def test_keywords(self):
        allowed = {"sorted": ("key", "reverse"), "min": ("key", "default"), "max": ("key", "default"), "sum": ("start",),
                   "enumerate": ("start",), "zip": ("strict",)}
        for file, node in nodes_of(ast.Call):
            for keyword in node.keywords:
                self.assertIn(keyword.arg, allowed.get(getattr(node.func, "id", ""), ()), f"L22 {file}:{node.lineno}")

    def test_sets_are_only_counted_sorted_and_compared(self):
        for file, node in nodes_of(ast.AST):
            counting = isinstance(node, ast.Call) and getattr(node.func, "id", "") in ("len", "sorted") and not node.keywords
            if counting or isinstance(node, ast.Compare):
                continue
            for part in ast.iter_child_nodes(node):
                made = isinstance(part, ast.Call) and getattr(part.func, "id", "") in ("set", "frozenset")
                self.assertFalse(made, f"L24 {file}:{getattr(node, 'lineno', 0)}")

    def test_names(self):
        for file, node in nodes_of((ast.Name, ast.arg)):
            name = node.id if isinstance(node, ast.Name) else node.arg
            place = f"{file}:{node.lineno} {name}"
            self.assertFalse(name.startswith("_"), f"L12 {place}")
            if hasattr(builtins, name):
                self.assertIn(name, OWN_NAMES, f"L8 {place}")
                self.assertTrue(isinstance(node, ast.Name) and isinstance(node.ctx, ast.Load), f"L15 {place}")

    def test_is_stands_beside_none_and_truths(self):
        for file, node in nodes_of(ast.Compare):
            if any(isinstance(sign, (ast.Is, ast.IsNot)) for sign in node.ops):
                self.assertIn(getattr(node.comparators[0], "value", "other"), (None, True, False), f"L20 {file}:{node.lineno}")

    def test_methods_and_values(self):
        methods = {part.name for file, node in nodes_of(ast.ClassDef) for part in node.body if isinstance(part, ast.FunctionDef)}
        stored = {node.attr for file, node in nodes_of(ast.Attribute) if isinstance(node.ctx, ast.Store)}
        self.assertEqual(sorted(methods & stored), [], "L18")
        for file, node in nodes_of(ast.Call):
            if isinstance(node.func, ast.Attribute):
                self.assertIn(node.func.attr, list(methods) + METHODS, f"L25 {file}:{node.lineno}")
        for file, node in nodes_of(ast.Attribute):
            self.assertFalse(node.attr.startswith("_"), f"L12 {file}:{node.lineno}")

    def test_imports(self):
        for file, node in nodes_of(ast.ImportFrom):
            place = f"{file}:{node.lineno}"
            self.assertTrue(node.level == 0 and node.module.startswith("pagenames."), f"L2 {place}")
            tree = ast.parse((FOLDER / (node.module.split(".")[1] + ".py")).read_text())
            defined = [part.name for part in tree.body if isinstance(part, (ast.FunctionDef, ast.ClassDef))]
            defined += [part.targets[0].id for part in tree.body if isinstance(part, ast.Assign)]
            for alias in node.names:
                self.assertIn(alias.name, defined, f"L16 {place}")

    def test_no_two_files_draw_from_one_another(self):
        drawn = {path.stem: drawn_from(path) for path in FILES}
        self.assertEqual(drawn["__init__"], [], "L16")
        while drawn:
            free = [name for name in drawn if not set(drawn[name]) & set(drawn)]
            self.assertNotEqual(free, [], f"L16 {sorted(drawn)}")
            drawn = {name: drawn[name] for name in drawn if name not in free}


if __name__ == "__main__":
    unittest.main()
