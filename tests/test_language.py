"""The rules of the Python subset that a look at the code can decide."""

import ast
import builtins
import importlib
import re
import unittest
from pathlib import Path

PACKAGE = Path(__file__).resolve().parent.parent / "echelon"
FILES = sorted(PACKAGE.rglob("*.py"))

LIBRARY = {
    "heapq": ("heappush", "heappop", "heapify", "heapreplace", "heappushpop"),
    "math": ("gcd", "lcm", "isqrt", "comb", "perm", "factorial"),
    "itertools": ("product", "combinations", "permutations", "chain", "accumulate", "pairwise",
                  "islice", "zip_longest"),
    "collections": ("defaultdict",),
}

BUILTINS = """len range enumerate zip min max sum abs sorted reversed int str bool bytes list tuple
    dict set frozenset isinstance ord repr any all divmod pow map iter next Exception ValueError
    TypeError KeyError IndexError LookupError ZeroDivisionError ArithmeticError OverflowError
    RuntimeError NotImplementedError AttributeError StopIteration NotImplemented""".split()

METHODS = """append clear copy count endswith extend find get index insert isalnum isalpha isdigit
    islower isspace isupper items join keys ljust lower lstrip partition pop remove replace reverse
    rfind rjust rpartition rsplit rstrip setdefault split splitlines startswith strip update upper
    values zfill bit_length add discard sort format isascii isdecimal removeprefix removesuffix
    __init__""".split()

BARRED = """global async typing typing_extensions enum Enum IntEnum StrEnum Flag IntFlag Generic
    Protocol ABC ABCMeta namedtuple NamedTuple TypedDict TYPE_CHECKING abstractmethod dataclass
    overload contextmanager""".split()

UNUSED = """register mro elements open input law version_info with_traceback add_note attrgetter
    breakpoint builtins compile copyright credits delattr dir eval exec exit gc globals help id
    importlib license locals methodcaller os quit setattr type vars sys""".split()

STATEMENTS = (
    ast.Assign, ast.AugAssign, ast.AnnAssign, ast.If, ast.While, ast.For, ast.Return, ast.Break,
    ast.Continue, ast.Pass, ast.Raise, ast.Assert, ast.Delete, ast.Nonlocal, ast.Match, ast.With,
    ast.Try, ast.Expr, ast.FunctionDef, ast.ClassDef, ast.ImportFrom,
)

# What is iterated at once, and the functions that do it.
ITERATED = ("zip", "enumerate", "reversed", "range", "map")
TAKERS = ("list", "tuple", "dict", "sorted", "sum", "any", "all", "enumerate", "zip", "min", "max")

LITERALS = (ast.Constant, ast.Tuple, ast.List, ast.Dict, ast.UnaryOp, ast.Name)


def tree(path):
    return ast.parse(path.read_text())


def nodes(path, *kinds):
    return [node for node in ast.walk(tree(path)) if isinstance(node, kinds)]


def module_name(path):
    return ".".join(path.relative_to(PACKAGE.parent).with_suffix("").parts)


def bound(path):
    """All names that the file gives a meaning to, with those of parameters and variables."""
    names = [node.id for node in nodes(path, ast.Name) if isinstance(node.ctx, ast.Store)]
    names += [node.arg for node in nodes(path, ast.arg)]
    names += [node.name for node in nodes(path, ast.FunctionDef, ast.ClassDef)]
    names += [alias.name for node in nodes(path, ast.ImportFrom) for alias in node.names]
    names += [node.name for node in nodes(path, ast.ExceptHandler) if node.name]
    return names


def called(node):
    """The name of the function that is called, if it has a plain one."""
    return node.func.id if isinstance(node.func, ast.Name) else None


def plain_names(node):
    """The names that a loop goes over, straight or by enumerate, zip or reversed."""
    if isinstance(node, (ast.Name, ast.Attribute)):
        return [ast.unparse(node)]
    if isinstance(node, ast.Call) and called(node) in ("enumerate", "zip", "reversed"):
        return [name for other in node.args for name in plain_names(other)]
    return []


class FilesTest(unittest.TestCase):
    def test_files_and_names(self):
        self.assertTrue((PACKAGE / "__init__.py").is_file())
        for path in PACKAGE.rglob("*"):
            if "__pycache__" not in path.parts and not path.is_dir():
                self.assertRegex(path.name, r"^[a-z0-9_]+\.py$")

    def test_sizes_and_characters(self):
        for path in FILES:
            text = path.read_text()
            self.assertLessEqual(len(text.splitlines()), 399, path)
            self.assertIsNone(re.search("[^ -~\n]", text), path)
            for line in text.splitlines():
                self.assertLessEqual(len(line), 120, (path, line))
            for node in nodes(path, ast.FunctionDef):
                self.assertLessEqual(node.end_lineno - node.lineno + 1, 40, (path, node.name))

    def test_barred_words(self):
        for path in FILES:
            text = path.read_text()
            for word in BARRED:
                self.assertIsNone(re.search(rf"\b{word}\b", text), (path, word))
            self.assertNotIn("_wall", text)
            for name in bound(path):
                self.assertNotIn(name, UNUSED, path)
                self.assertNotIn(name, dir(builtins), path)
                self.assertRegex(name, r"^(_|_?[A-Za-z][A-Za-z0-9_]*|__init__)$", path)


class ImportsTest(unittest.TestCase):
    def test_every_import_names_the_file_that_defines_the_name(self):
        for path in FILES:
            for node in nodes(path, ast.Import):
                self.fail(f"{path}: import in line {node.lineno}")
            for node in nodes(path, ast.ImportFrom):
                self.assertEqual(node.level, 0)
                for alias in node.names:
                    self.assertIsNone(alias.asname)
                    if node.module in LIBRARY:
                        self.assertIn(alias.name, LIBRARY[node.module])
                    else:
                        self.assertTrue(node.module.startswith("echelon."), node.module)
                        source = PACKAGE.parent / (node.module.replace(".", "/") + ".py")
                        self.assertIn(alias.name, module_level(source), (path, alias.name))

    def test_no_file_imports_itself_through_others(self):
        wanted = {module_name(path): [node.module for node in nodes(path, ast.ImportFrom)]
                  for path in FILES}
        while wanted:
            free = [name for name in wanted if not any(other in wanted for other in wanted[name])]
            self.assertTrue(free, wanted)
            for name in free:
                del wanted[name]

    def test_every_file_can_be_imported(self):
        for path in FILES:
            if path.name != "__init__.py":
                importlib.import_module(module_name(path))


def module_level(path):
    """The names that a file defines itself at module level."""
    out = []
    for node in tree(path).body:
        if isinstance(node, (ast.FunctionDef, ast.ClassDef)):
            out.append(node.name)
        if isinstance(node, ast.Assign):
            out += [target.id for target in node.targets]
    return out


class CodeTest(unittest.TestCase):
    def test_module_level(self):
        for path in FILES:
            names = module_level(path)
            names += [alias.name for node in nodes(path, ast.ImportFrom) for alias in node.names]
            self.assertEqual(len(names), len(set(names)), path)
            for node in tree(path).body:
                if isinstance(node, ast.Assign):
                    self.assertEqual(len(node.targets), 1)
                    self.assertIsInstance(node.value, LITERALS)
                elif isinstance(node, ast.Expr):
                    self.assertIsInstance(node.value, ast.Constant)
                else:
                    kinds = (ast.FunctionDef, ast.ClassDef, ast.ImportFrom)
                    self.assertIsInstance(node, kinds)

    def test_statements_and_expressions(self):
        for path in FILES:
            for node in nodes(path, ast.stmt):
                self.assertIsInstance(node, STATEMENTS, path)
            for node in nodes(path, ast.FunctionDef, ast.ClassDef):
                self.assertEqual(node.decorator_list, [], path)
            for node in nodes(path, ast.Constant):
                self.assertNotIsInstance(node.value, (float, complex), path)
                if isinstance(node.value, str):
                    self.assertNotIn("%", node.value, path)
            for node in nodes(path, ast.BinOp, ast.AugAssign):
                self.assertNotIsInstance(node.op, (ast.Div, ast.MatMult), path)
                if isinstance(node.op, ast.Pow):
                    self.assertIsInstance(node.right, ast.Constant, path)
            for node in nodes(path, ast.Compare):
                if any(isinstance(op, (ast.Is, ast.IsNot)) for op in node.ops):
                    self.assertIn(node.comparators[-1].value, (None, True, False), path)

    def test_names_and_methods(self):
        methods = [node.name for path in FILES for kind in nodes(path, ast.ClassDef)
                   for node in kind.body if isinstance(node, ast.FunctionDef)]
        for path in FILES:
            own = bound(path)
            for node in nodes(path, ast.Name):
                self.assertIn(node.id, own + BUILTINS, (path, node.lineno))
            for node in nodes(path, ast.Call):
                if isinstance(node.func, ast.Attribute):
                    self.assertIn(node.func.attr, methods + METHODS, (path, node.lineno))
                else:
                    self.assertIsInstance(node.func, ast.Name, path)

    def test_no_variable_has_the_name_of_an_import_or_a_class(self):
        for path in FILES:
            fixed = [alias.name for node in nodes(path, ast.ImportFrom) for alias in node.names]
            fixed += [node.name for node in nodes(path, ast.ClassDef)]
            for node in nodes(path, ast.Name):
                if isinstance(node.ctx, ast.Store):
                    self.assertNotIn(node.id, fixed, (path, node.lineno))
            for node in nodes(path, ast.arg):
                self.assertNotIn(node.arg, fixed, (path, node.lineno))

    def test_ranges_and_the_like_are_iterated_at_once(self):
        for path in FILES:
            allowed = []
            for node in nodes(path, ast.For, ast.comprehension):
                allowed.append(node.iter)
            for node in nodes(path, ast.Call):
                if called(node) in TAKERS:
                    allowed += node.args[:1]
            for node in nodes(path, ast.Call):
                if called(node) in ITERATED:
                    spots = [(other.lineno, other.col_offset) for other in allowed]
                    self.assertIn((node.lineno, node.col_offset), spots, path)

    def test_loops_do_not_change_what_they_go_over(self):
        for path in FILES:
            for loop in nodes(path, ast.For):
                gone_over = plain_names(loop.iter)
                for node in [node for row in loop.body for node in ast.walk(row)]:
                    if isinstance(node, ast.Subscript) and isinstance(node.ctx, ast.Store):
                        self.assertNotIn(ast.unparse(node.value), gone_over, (path, node.lineno))
                    if isinstance(node, ast.Call) and isinstance(node.func, ast.Attribute):
                        self.assertNotIn(ast.unparse(node.func.value), gone_over, (path, node.lineno))

    def test_lambdas(self):
        for path in FILES:
            lines = [node.lineno for node in nodes(path, ast.Lambda)]
            self.assertEqual(len(lines), len(set(lines)), path)

    def test_errors_are_created_where_they_are_raised(self):
        for path in FILES:
            for node in nodes(path, ast.Raise):
                self.assertTrue(node.exc is None or isinstance(node.exc, ast.Call), path)
            for node in nodes(path, ast.ExceptHandler):
                self.assertIsNotNone(node.type, path)


if __name__ == "__main__":
    unittest.main()
