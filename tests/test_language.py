"""Holds the package's files to those rules of its language that can be read off a file by itself."""

import ast
import pathlib
import re
import unittest

PACKAGE = pathlib.Path(__file__).resolve().parent.parent / "gapwork"
NODES = """Module FunctionDef ClassDef Return Assign AugAssign For While If Raise Try Assert Delete ImportFrom alias
Expr Pass Break Continue BoolOp And Or BinOp Add Sub Mult FloorDiv Mod Pow LShift RShift BitOr BitXor BitAnd UnaryOp
Not USub Invert Lambda IfExp Dict Set ListComp SetComp DictComp comprehension Compare Eq NotEq Lt LtE Gt GtE Is IsNot
In NotIn Call keyword JoinedStr FormattedValue Constant Attribute Subscript Starred Name List Tuple Slice Load Store
Del arguments arg ExceptHandler""".split()
BUILTINS = """len range enumerate zip min max sum abs sorted reversed int str bool bytes list tuple dict set frozenset
isinstance ord repr any all divmod ValueError KeyError IndexError LookupError ZeroDivisionError StopIteration""".split()
METHODS = """append clear copy count endswith extend find get index insert isalnum isalpha isdigit islower isspace
isupper items join keys ljust lower lstrip partition pop remove replace reverse rfind rjust rpartition rsplit rstrip
setdefault split splitlines startswith strip update upper values zfill bit_length sort add discard __init__""".split()
WORDS_OUT = """type typing typing_extensions enum Enum IntEnum StrEnum Flag IntFlag Generic Protocol ABC ABCMeta
namedtuple NamedTuple TypedDict TYPE_CHECKING abstractmethod""".split()
NAMES_OUT = """register mro elements open input version_info with_traceback add_note attrgetter breakpoint builtins
compile copyright credits delattr dir eval exec exit gc getattr globals hasattr help id importlib license locals
methodcaller os quit setattr super type vars sys""".split()
PYTHONS_OWN = set(dir(__import__("builtins")))


def names_bound(tree):
    found = []
    for node in ast.walk(tree):
        if isinstance(node, ast.Name) and not isinstance(node.ctx, ast.Load):
            found.append(node.id)
        elif isinstance(node, ast.arg):
            found.append(node.arg)
        elif isinstance(node, (ast.FunctionDef, ast.ClassDef)):
            found.append(node.name)
    return found


class TheLanguage(unittest.TestCase):
    def setUp(self):
        self.files = [path for path in sorted(PACKAGE.rglob("*")) if "__pycache__" not in path.parts]
        self.trees = [(path, ast.parse(path.read_text("utf-8"))) for path in self.files if path.suffix == ".py"]

    def each_node(self, *sorts):
        for path, tree in self.trees:
            for node in ast.walk(tree):
                if isinstance(node, sorts):
                    yield f"{path.name}:{getattr(node, 'lineno', 0)}", node

    def test_files(self):
        self.assertTrue((PACKAGE / "__init__.py").is_file())
        for path in self.files:
            self.assertTrue(path.is_file() and re.fullmatch(r"[a-z0-9_]+\.py", path.name), path)

    def test_signs_and_sizes(self):
        for path in self.files:
            text = path.read_text("utf-8")
            self.assertRegex(text, r"\A[ -~\n]*\Z", path)
            self.assertLessEqual(len(text.splitlines()), 400, path)
            for line in text.splitlines():
                self.assertLessEqual(len(line), 120, f"{path}: {line}")
            for word in WORDS_OUT:
                self.assertNotRegex(text, rf"\b{word}\b", path)
            self.assertNotRegex(text, "dataclass|overload|contextmanager", path)
        for where, node in self.each_node(ast.FunctionDef):
            self.assertLessEqual(node.end_lineno - node.lineno + 1, 40, where)

    def test_nothing_else_is_written_than_the_rules_have(self):
        for where, node in self.each_node(ast.AST):
            self.assertIn(type(node).__name__, NODES, where)

    def test_numbers_and_texts(self):
        for where, node in self.each_node(ast.Constant):
            self.assertIn(type(node.value), (int, str, bytes, bool, type(None)), where)
            if isinstance(node.value, str):
                self.assertNotIn("%", node.value, where)
        for where, node in self.each_node(ast.FormattedValue):
            self.assertIsNone(node.format_spec, where)
        for where, node in self.each_node(ast.Pow):
            self.fail(where)

    def test_functions_and_classes(self):
        for where, node in self.each_node(ast.FunctionDef):
            self.assertFalse(node.decorator_list or node.args.vararg or node.args.kwarg or node.args.posonlyargs, where)
        for where, node in self.each_node(ast.ClassDef):
            self.assertFalse(node.decorator_list or node.keywords or len(node.bases) > 1, where)
            for row in node.body:
                docstring = isinstance(row, ast.Expr) and isinstance(row.value, ast.Constant)
                self.assertTrue(isinstance(row, ast.FunctionDef) or docstring, where)
        for where, node in self.each_node(ast.For, ast.While):
            self.assertFalse(node.orelse, where)

    def test_imports_are_the_packages_own_and_go_round_nowhere(self):
        drawn = {path.stem: [] for path, tree in self.trees}
        for path, tree in self.trees:
            for node in ast.walk(tree):
                if isinstance(node, ast.ImportFrom):
                    self.assertIn(node, tree.body, path)
                    self.assertRegex(node.module, r"\Agapwork\.[a-z_]+\Z", path)
                    self.assertEqual(node.level, 0, path)
                    source = node.module.split(".")[1]
                    drawn[path.stem].append(source)
                    top = next(other for far, other in self.trees if far.stem == source)
                    for name in node.names:
                        self.assertIn(name.name, names_bound(ast.Module(top.body, [])), path)
        self.assertEqual(drawn["__init__"], [])
        while drawn:
            free = [name for name in drawn if not any(other in drawn for other in drawn[name])]
            self.assertTrue(free, f"these draw from one another: {sorted(drawn)}")
            for name in free:
                del drawn[name]

    def test_names(self):
        for path, tree in self.trees:
            imported = [name.asname or name.name for node in tree.body if isinstance(node, ast.ImportFrom)
                        for name in node.names]
            classes = [node.name for node in tree.body if isinstance(node, ast.ClassDef)]
            for name in names_bound(tree):
                self.assertRegex(name, r"\A([A-Za-z][A-Za-z0-9_]*|__init__)\Z", path)
                self.assertNotIn(name, NAMES_OUT, path)
                self.assertNotIn(name, PYTHONS_OWN, path)
                self.assertNotIn(name, imported, path)
            for node in tree.body:
                if isinstance(node, ast.FunctionDef):
                    self.assertFalse(set(names_bound(node)) & set(classes), f"{path}: {node.name}")
            known = set(names_bound(tree)) | set(imported) | set(BUILTINS)
            for node in ast.walk(tree):
                if isinstance(node, ast.Name):
                    self.assertIn(node.id, known, path)

    def test_values_and_methods_asked_are_those_that_are_there(self):
        given = [node.attr for where, node in self.each_node(ast.Attribute) if isinstance(node.ctx, ast.Store)]
        methods = [row.name for where, node in self.each_node(ast.ClassDef) for row in node.body
                   if isinstance(row, ast.FunctionDef)]
        self.assertFalse(set(given) & set(methods))
        for where, node in self.each_node(ast.Attribute):
            self.assertIn(node.attr, METHODS + given + methods, where)

    def test_walks_and_comparisons(self):
        at_once = ("zip", "enumerate", "reversed", "range")
        walked = set()
        for where, node in self.each_node(ast.For, ast.comprehension):
            walked.add(id(node.iter))
        for where, node in self.each_node(ast.Call):
            if isinstance(node.func, ast.Name) and node.func.id in ("list", "tuple", "dict", "sorted", "sum"):
                walked.update(id(thing) for thing in node.args[:1])
        for where, node in self.each_node(ast.Call):
            name = node.func.id if isinstance(node.func, ast.Name) else getattr(node.func, "attr", "")
            if name in at_once or name in ("items", "keys", "values"):
                self.assertIn(id(node), walked, where)
        for where, node in self.each_node(ast.Compare):
            for sign, right in zip(node.ops, node.comparators):
                if isinstance(sign, (ast.Is, ast.IsNot)):
                    self.assertTrue(isinstance(right, ast.Constant) and right.value in (None, True, False), where)

    def test_errors_are_made_on_the_spot(self):
        for where, node in self.each_node(ast.Raise):
            made = node.exc is None or (isinstance(node.exc, ast.Call) and isinstance(node.exc.func, ast.Name))
            self.assertTrue(made, where)
        for where, node in self.each_node(ast.ExceptHandler):
            self.assertIsNotNone(node.type, where)
            for name in ast.walk(node.type):
                if isinstance(name, ast.Name):
                    self.assertNotIn(name.id, ("Exception", "TypeError"), where)


if __name__ == "__main__":
    unittest.main()
