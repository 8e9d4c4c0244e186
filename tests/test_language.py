"""What can be seen of the package's files without running them: promise 1, and the plainest rules of its language."""

import ast
import builtins
import pathlib
import re
import unittest

PACKAGE = pathlib.Path(__file__).resolve().parent.parent / "windpoints"
BUILTINS = set("""
    len range enumerate zip min max sum abs sorted reversed int str bool list tuple dict set isinstance ord repr any all
    divmod iter next object float bytes Exception ValueError TypeError KeyError IndexError LookupError ZeroDivisionError
    ArithmeticError OverflowError RuntimeError NotImplementedError NotImplemented
""".split())
BARRED_WORDS = re.compile(
    r"\b(type|typing|typing_extensions|enum|Enum|IntEnum|StrEnum|Flag|IntFlag|Generic|Protocol|ABC|ABCMeta|namedtuple"
    r"|NamedTuple|TypedDict|TYPE_CHECKING|abstractmethod)\b|dataclass|overload|contextmanager"
)
BARRED_NODES = (
    ast.Global, ast.AsyncFunctionDef, ast.AsyncFor, ast.AsyncWith, ast.Await, ast.Import, ast.Div,
)


def sources():
    return {path: path.read_text(encoding="utf-8") for path in sorted(PACKAGE.rglob("*.py"))}


def each_node():
    """Each node of each file, with where it stands."""
    return [
        (f"{path.name}:{getattr(node, 'lineno', 0)}", node)
        for path, source in sources().items()
        for node in ast.walk(ast.parse(source))
    ]


class Language(unittest.TestCase):
    def test_the_folder_holds_plain_files_alone(self):
        found = [path for path in PACKAGE.rglob("*") if "__pycache__" not in path.parts]
        self.assertTrue(found)
        for path in found:
            self.assertRegex(path.name, r"\A([a-z][a-z0-9_]*|__init__)\.py\Z")

    def test_signs_and_sizes(self):
        for path, source in sources().items():
            lines = source.split("\n")
            with self.subTest(file=path.name):
                self.assertRegex(source, r"\A[ -~\n]*\Z")
                self.assertLessEqual(len(lines), 399)
                self.assertLessEqual(max(len(line) for line in lines), 120)
                self.assertIsNone(BARRED_WORDS.search(source))

    def test_functions_are_small(self):
        for where, node in each_node():
            if isinstance(node, ast.FunctionDef):
                self.assertLessEqual(node.end_lineno - node.lineno + 1, 40, where)

    def test_imports_are_of_the_package_alone(self):
        for where, node in each_node():
            self.assertNotIsInstance(node, BARRED_NODES, where)
            if isinstance(node, ast.ImportFrom):
                self.assertEqual(node.level, 0, where)
                self.assertTrue(node.module.startswith("windpoints."), where)

    def test_no_builtin_but_those_let(self):
        for where, node in each_node():
            if isinstance(node, ast.Name) and hasattr(builtins, node.id):
                self.assertIn(node.id, BUILTINS, where)

    def test_no_name_is_a_method_and_an_attribute(self):
        methods, attributes = set(), set()
        for _, node in each_node():
            if isinstance(node, ast.ClassDef):
                methods.update(part.name for part in node.body if isinstance(part, ast.FunctionDef))
            elif isinstance(node, ast.Attribute) and isinstance(node.ctx, ast.Store):
                attributes.add(node.attr)
        self.assertEqual(methods & attributes, set())

    def test_no_name_has_another_meaning(self):
        for path, source in sources().items():
            tree = ast.parse(source)
            taken = {alias.name for node in tree.body if isinstance(node, ast.ImportFrom) for alias in node.names}
            taken |= {node.name for node in tree.body if isinstance(node, ast.ClassDef)}
            for node in ast.walk(tree):
                stored = isinstance(node, ast.Name) and isinstance(node.ctx, ast.Store)
                name = node.id if stored else node.arg if isinstance(node, ast.arg) else None
                if name is not None:
                    where = f"{path.name}:{node.lineno} {name}"
                    self.assertNotIn(name, taken, where)
                    self.assertFalse(hasattr(builtins, name), where)
                    self.assertFalse(name.startswith("_"), where)

    def test_imports_are_used(self):
        for path, source in sources().items():
            tree = ast.parse(source)
            imported = {alias.name for node in tree.body if isinstance(node, ast.ImportFrom) for alias in node.names}
            used = {node.id for node in ast.walk(tree) if isinstance(node, ast.Name)}
            self.assertEqual(imported - used, set(), path.name)

    def test_no_two_files_import_from_each_other(self):
        imports = {
            path.stem: {node.module.split(".")[1] for node in ast.parse(source).body if isinstance(node, ast.ImportFrom)}
            for path, source in sources().items()}
        for first in imports:
            reached, waiting = set(), list(imports[first])
            while waiting:
                name = waiting.pop()
                if name not in reached:
                    reached.add(name)
                    waiting.extend(imports[name])
            self.assertNotIn(first, reached)

    def test_no_generators(self):
        for where, node in each_node():
            self.assertNotIsInstance(node, (ast.GeneratorExp, ast.Yield, ast.YieldFrom), where)

    def test_constants(self):
        for where, node in each_node():
            if isinstance(node, ast.Constant):
                self.assertNotIsInstance(node.value, (float, complex), where)
                self.assertNotIn("%", str(node.value), where)

    def test_is_with_none_true_and_false_alone(self):
        for where, node in each_node():
            if isinstance(node, ast.Compare):
                for op, right in zip(node.ops, node.comparators):
                    if isinstance(op, (ast.Is, ast.IsNot)):
                        self.assertIsInstance(right, ast.Constant, where)
                        self.assertIn(right.value, (None, True, False), where)


if __name__ == "__main__":
    unittest.main()
