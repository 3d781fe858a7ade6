"""The main rules of ../shared/LANGUAGE.md, as far as a short test can see them."""

import ast
import builtins
import pathlib
import unittest

PACKAGE = pathlib.Path(__file__).resolve().parent.parent / "roundtold"
FILES = sorted(PACKAGE.rglob("*.py"))

LIBRARY = {
    "heapq": {"heappush", "heappop", "heapify", "heapreplace", "heappushpop"},
    "math": {"gcd", "lcm", "isqrt", "comb", "perm", "factorial"},
    "itertools": {"product", "combinations", "permutations", "chain", "accumulate", "pairwise", "islice",
                  "zip_longest"},
    "collections": {"defaultdict"},
}
BUILTINS = set("""
    len range enumerate zip min max sum abs sorted reversed int str bool list tuple dict set frozenset isinstance ord
    repr any all divmod pow iter next map getattr hasattr setattr super Exception ValueError TypeError KeyError
    IndexError LookupError ZeroDivisionError ArithmeticError OverflowError RuntimeError NotImplementedError
    AttributeError StopIteration NotImplemented bytes property staticmethod classmethod
""".split())
METHODS = set("""
    append clear copy count endswith extend find get index insert isalnum isalpha isdigit islower isspace isupper
    items join keys ljust lower lstrip partition pop remove replace reverse rfind rjust rpartition rsplit rstrip
    setdefault split splitlines startswith strip update upper values zfill bit_length title capitalize swapcase
    casefold center expandtabs removeprefix removesuffix rindex isascii isdecimal isnumeric istitle isidentifier
    isprintable translate add discard sort format __init__
""".split())
BARRED_NODES = (
    ast.Global, ast.AsyncFunctionDef, ast.AsyncFor, ast.AsyncWith, ast.Await, ast.Import, ast.Div, ast.MatMult,
)
BARRED_NAMES = {
    "register", "mro", "elements", "law", "version_info", "with_traceback", "add_note", "attrgetter", "builtins", "gc",
    "importlib", "methodcaller", "os", "sys", "typing", "Enum", "enum", "namedtuple", "NamedTuple", "Generic",
}


def docstrings(tree):
    """The nodes of all docstrings."""
    holders = (ast.Module, ast.ClassDef, ast.FunctionDef)
    return [node.body[0].value for node in ast.walk(tree)
            if isinstance(node, holders) and ast.get_docstring(node, clean=False) is not None]


def bound_names(tree):
    """All names that are functions (no methods), classes, imports, parameters, variables."""
    methods = [node for holder in ast.walk(tree) if isinstance(holder, ast.ClassDef) for node in holder.body]
    for node in ast.walk(tree):
        if isinstance(node, (ast.FunctionDef, ast.ClassDef)) and node not in methods:
            yield node.name
        elif isinstance(node, ast.arg):
            yield node.arg
        elif isinstance(node, ast.alias):
            yield node.asname or node.name
        elif isinstance(node, ast.Name) and isinstance(node.ctx, ast.Store):
            yield node.id


def imported_files(tree):
    return [node.module for node in ast.walk(tree) if isinstance(node, ast.ImportFrom)]


class Language(unittest.TestCase):
    def trees(self):
        """The triples (path, text, tree) of all files of the package."""
        texts = [(path, path.read_text(encoding="utf-8")) for path in FILES]
        return [(path, text, ast.parse(text)) for path, text in texts]

    def test_size_and_characters(self):
        self.assertLessEqual(len(FILES), 100)
        for path, text, tree in self.trees():
            lines = text.split("\n")
            self.assertRegex(path.name, r"\A[a-z][a-z0-9_]*\.py\Z|\A__(init|main)__\.py\Z")
            self.assertLessEqual(len(lines), 399)
            self.assertLessEqual(max(map(len, lines)), 120)
            self.assertTrue(all(" " <= sign <= "~" for line in lines for sign in line))
            for node in ast.walk(tree):
                if isinstance(node, ast.FunctionDef):
                    self.assertLessEqual(node.end_lineno - node.lineno + 1, 40, node.name)

    def test_nothing_but_python_files(self):
        others = [path for path in PACKAGE.rglob("*") if path.is_file() and path.suffix != ".py"]
        self.assertEqual([path for path in others if path.parent.name != "__pycache__"], [])

    def test_module_level(self):
        allowed = (ast.ImportFrom, ast.FunctionDef, ast.ClassDef, ast.Assign, ast.Expr)
        for _, _, tree in self.trees():
            for node in tree.body:
                self.assertIsInstance(node, allowed)
                if isinstance(node, ast.Expr):
                    self.assertIsInstance(node.value, ast.Constant)

    def test_imports(self):
        files = {"roundtold." + path.stem for path in FILES}
        for _, _, tree in self.trees():
            for node in ast.walk(tree):
                if isinstance(node, ast.ImportFrom):
                    names = {alias.name for alias in node.names}
                    self.assertEqual(node.level, 0)
                    self.assertNotIn("*", names)
                    self.assertTrue(node.module in files or names <= LIBRARY.get(node.module, set()), node.module)

    def test_no_circle_of_imports(self):
        below = {"roundtold." + path.stem: imported_files(tree) for path, _, tree in self.trees()}
        while below:
            free = [file for file, others in below.items() if not any(other in below for other in others)]
            self.assertNotEqual(free, [], below)
            below = {file: others for file, others in below.items() if file not in free}

    def test_statements_and_values(self):
        for _, _, tree in self.trees():
            told = docstrings(tree)
            for node in ast.walk(tree):
                self.assertNotIsInstance(node, BARRED_NODES, getattr(node, "lineno", None))
                if isinstance(node, ast.Constant) and node not in told:
                    self.assertNotIsInstance(node.value, (float, complex))
                    self.assertNotIn("%", str(node.value))

    def test_names(self):
        for _, _, tree in self.trees():
            for name in bound_names(tree):
                self.assertNotIn(name, BARRED_NAMES)
                self.assertFalse(hasattr(builtins, name), name)
                self.assertFalse(name.startswith("__"), name)
            for node in ast.walk(tree):
                if isinstance(node, ast.Name) and hasattr(builtins, node.id):
                    self.assertIn(node.id, BUILTINS)

    def test_no_name_stands_for_two_things(self):
        for path, _, tree in self.trees():
            taken = {alias.name for node in tree.body if isinstance(node, ast.ImportFrom) for alias in node.names}
            taken |= {node.name for node in tree.body if isinstance(node, (ast.ClassDef, ast.FunctionDef))}
            for node in ast.walk(tree):
                if isinstance(node, ast.arg):
                    self.assertNotIn(node.arg, taken, path.name)
                elif isinstance(node, ast.Name) and isinstance(node.ctx, ast.Store):
                    self.assertNotIn(node.id, taken, path.name)

    def test_imports_are_used(self):
        for path, _, tree in self.trees():
            used = {node.id for node in ast.walk(tree) if isinstance(node, ast.Name)}
            for node in tree.body:
                if isinstance(node, ast.ImportFrom):
                    self.assertLessEqual({alias.name for alias in node.names}, used, path.name)

    def test_methods(self):
        own = {node.name for _, _, tree in self.trees() for node in ast.walk(tree) if isinstance(node, ast.FunctionDef)}
        for _, _, tree in self.trees():
            for node in ast.walk(tree):
                if isinstance(node, ast.Call) and isinstance(node.func, ast.Attribute):
                    self.assertIn(node.func.attr, METHODS | own)


if __name__ == "__main__":
    unittest.main()
