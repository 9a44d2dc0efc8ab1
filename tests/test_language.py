"""Some of the rules L1 to L28 that the files of the package are written by: those that are plainly seen."""

import ast
import builtins
import re
import unittest
from pathlib import Path

PACKAGE = Path(__file__).resolve().parent.parent / "tierounds"

BUILTINS = set(
    "len range enumerate zip min max sum abs sorted reversed int str bool bytes list tuple dict set frozenset isinstance "
    "ord repr any all divmod Exception ValueError TypeError KeyError IndexError LookupError ZeroDivisionError "
    "ArithmeticError OverflowError RuntimeError NotImplementedError AttributeError StopIteration NotImplemented".split())
METHODS = set(
    "append clear copy count endswith extend find get index insert isalnum isalpha isdigit islower isspace isupper items "
    "join keys ljust lower lstrip partition pop remove replace reverse rfind rjust rpartition rsplit rstrip setdefault "
    "split splitlines startswith strip update upper values zfill bit_length add discard sort".split())
WORDS = (
    "type typing typing_extensions enum Enum IntEnum StrEnum Flag IntFlag Generic Protocol ABC ABCMeta namedtuple "
    "NamedTuple TypedDict TYPE_CHECKING abstractmethod").split()
NAMES = set(
    "register mro elements open input version_info with_traceback add_note attrgetter breakpoint builtins compile "
    "copyright credits delattr dir eval exec exit gc getattr globals hasattr help id importlib license locals "
    "methodcaller os quit setattr super type vars sys".split())
BARRED = (ast.Import, ast.Global, ast.AsyncFunctionDef, ast.AsyncFor, ast.AsyncWith, ast.Await, ast.Div)


def files():
    """Each file of the package with its text and its parsed text."""
    for path in sorted(PACKAGE.glob("*.py")):
        text = path.read_text(encoding="utf-8")
        yield path, text, ast.parse(text)


def functions(tree):
    return [node for node in ast.walk(tree) if isinstance(node, ast.FunctionDef)]


def bound_names(tree):
    """Names of functions, classes, parameters and variables."""
    for node in ast.walk(tree):
        if isinstance(node, (ast.FunctionDef, ast.ClassDef)):
            yield node.name
        if isinstance(node, ast.arg):
            yield node.arg
        if isinstance(node, ast.Name) and isinstance(node.ctx, ast.Store):
            yield node.id


def imports_of(tree):
    return [node for node in tree.body if isinstance(node, ast.ImportFrom)]


class Language(unittest.TestCase):
    def test_files(self):
        for path in PACKAGE.iterdir():
            if path.name != "__pycache__":
                self.assertRegex(path.name, r"^([a-z][a-z0-9_]*|__init__)\.py$")
        self.assertTrue((PACKAGE / "__init__.py").is_file())

    def test_characters_and_sizes(self):
        for path, text, tree in files():
            self.assertIsNone(re.search(r"[^ -~\n]", text), path)
            lines = text.split("\n")
            self.assertLessEqual(len(lines), 400, path)
            self.assertLessEqual(max(len(line) for line in lines), 120, path)
            for node in functions(tree):
                self.assertLessEqual(node.end_lineno - node.lineno + 1, 40, (path, node.name))

    def test_barred_words(self):
        for path, text, _ in files():
            found = set(re.findall(r"\w+", text)) & set(WORDS)
            self.assertEqual(found, set(), path)
            self.assertIsNone(re.search("dataclass|overload|contextmanager", text), path)

    def test_imports_name_the_file_that_defines(self):
        for path, _, tree in files():
            for node in ast.walk(tree):
                if isinstance(node, ast.ImportFrom):
                    self.assertIn(node, tree.body, path)
                    self.assertEqual(node.level, 0, path)
                    self.assertRegex(node.module, r"^tierounds\.\w+$")
                    source = ast.parse((PACKAGE / (node.module.split(".")[1] + ".py")).read_text())
                    for alias in node.names:
                        defined = [part.name for part in source.body if hasattr(part, "name")]
                        defined += [part.targets[0].id for part in source.body if isinstance(part, ast.Assign)]
                        self.assertIn(alias.name, defined, path)

    def test_no_two_files_import_each_other(self):
        above = {path.stem: {node.module.split(".")[1] for node in imports_of(tree)} for path, _, tree in files()}
        while above:
            free = [name for name, needed in above.items() if not needed & set(above)]
            self.assertTrue(free, above)
            above = {name: above[name] for name in above if name not in free}

    def test_statements_and_values(self):
        for path, _, tree in files():
            for node in ast.walk(tree):
                self.assertNotIsInstance(node, BARRED, path)
                if isinstance(node, ast.Constant):
                    self.assertNotIsInstance(node.value, (float, complex), path)
                    if isinstance(node.value, str):
                        self.assertNotIn("%", node.value, path)
                if isinstance(node, ast.Compare):
                    for sign, other in zip(node.ops, node.comparators):
                        if isinstance(sign, (ast.Is, ast.IsNot)):
                            self.assertIsInstance(other, ast.Constant, path)

    def test_module_level(self):
        allowed = (ast.ImportFrom, ast.FunctionDef, ast.ClassDef, ast.Assign)
        for path, _, tree in files():
            for at, node in enumerate(tree.body):
                is_docstring = at == 0 and isinstance(node, ast.Expr) and isinstance(node.value, ast.Constant)
                self.assertTrue(is_docstring or isinstance(node, allowed), (path, node.lineno))

    def test_names(self):
        for path, _, tree in files():
            imported = {alias.name for node in imports_of(tree) for alias in node.names}
            for name in bound_names(tree):
                self.assertRegex(name, r"^([A-Za-z][A-Za-z0-9_]*|__[a-z]+__)$")
                self.assertNotIn(name, NAMES | imported | set(dir(builtins)), path)

    def test_builtins_and_methods(self):
        for path, _, tree in files():
            own = {node.name for node in functions(tree)}
            for node in ast.walk(tree):
                if isinstance(node, ast.Name) and hasattr(builtins, node.id):
                    self.assertIn(node.id, BUILTINS, path)
                if isinstance(node, ast.Call) and isinstance(node.func, ast.Attribute):
                    self.assertIn(node.func.attr, METHODS | own, path)


if __name__ == "__main__":
    unittest.main()
