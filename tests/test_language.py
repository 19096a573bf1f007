"""Some of what the program's subset of Python does not allow, looked for in the files of the package."""

import ast
import builtins
import pathlib
import unittest
import warnings

PACKAGE = pathlib.Path(__file__).resolve().parent.parent / "siltstore"
BUILTINS = set("""len range enumerate zip min max sum abs sorted reversed int str bool list tuple dict set isinstance
    ord repr any all divmod pow map iter next getattr hasattr setattr Exception ValueError TypeError KeyError IndexError
    LookupError ZeroDivisionError ArithmeticError OverflowError RuntimeError NotImplementedError StopIteration
    NotImplemented bytes property staticmethod classmethod super""".split())
METHODS = set("""append clear copy count endswith extend find get index insert isalnum isalpha isdigit islower isspace
    isupper items join keys ljust lower lstrip partition pop remove replace reverse rfind rjust rpartition rsplit rstrip
    setdefault split splitlines startswith strip update upper values zfill bit_length add discard sort format
    __init__""".split())
LIBRARY = {"heapq", "math", "itertools", "collections"}
WORDS = set("""register mro elements open input law version_info with_traceback add_note breakpoint compile dir eval
    exec exit globals help id locals os quit vars typing enum dataclass namedtuple""".split())
NOT_ALLOWED = (ast.Global, ast.AsyncFunctionDef, ast.AsyncFor, ast.AsyncWith, ast.Await, ast.Import, ast.Div,
               ast.MatMult)


def parsed():
    return {path.name: ast.parse(path.read_text()) for path in sorted(PACKAGE.glob("*.py"))}


def own_names(trees):
    found = set()
    for tree in trees.values():
        for node in ast.walk(tree):
            if isinstance(node, (ast.FunctionDef, ast.ClassDef)):
                found.add(node.name)
    return found


class LanguageTest(unittest.TestCase):
    def each_node(self):
        for name, tree in parsed().items():
            for node in ast.walk(tree):
                yield f"{name}:{getattr(node, 'lineno', 0)}", node

    def test_files(self):
        names = [path.name for path in PACKAGE.iterdir() if path.name != "__pycache__"]
        self.assertIn("__init__.py", names)
        for name in names:
            self.assertRegex(name, r"^(__init__|[a-z][a-z0-9_]*)\.py$")

    def test_sizes_and_characters(self):
        for path in PACKAGE.glob("*.py"):
            text = path.read_text(encoding="utf-8")
            self.assertTrue(all(" " <= sign <= "~" or sign == "\n" for sign in text), path.name)
            self.assertLessEqual(len(text.splitlines()), 399, path.name)
            self.assertLessEqual(max(map(len, text.splitlines())), 120, path.name)

    def test_small_functions(self):
        for where, node in self.each_node():
            if isinstance(node, ast.FunctionDef):
                self.assertLessEqual(node.end_lineno - node.lineno + 1, 40, where)

    def test_no_warnings(self):
        with warnings.catch_warnings():
            warnings.simplefilter("error")
            for path in PACKAGE.glob("*.py"):
                compile(path.read_text(), path.name, "exec")

    def test_imports(self):
        for name, tree in parsed().items():
            behind = False
            for node in tree.body:
                if isinstance(node, ast.ImportFrom):
                    self.assertFalse(behind, f"{name}:{node.lineno}")
                    self.assertEqual(node.level, 0)
                    self.assertTrue(node.module.startswith("siltstore.") or node.module in LIBRARY, node.module)
                    self.assertTrue(all(part.name != "*" and part.asname is None for part in node.names))
                elif not (isinstance(node, ast.Expr) and isinstance(node.value, ast.Constant)):
                    behind = True

    def test_statements_and_values(self):
        for where, node in self.each_node():
            self.assertNotIsInstance(node, NOT_ALLOWED, where)
            if isinstance(node, ast.Constant):
                self.assertNotIsInstance(node.value, (float, complex), where)
            if isinstance(node, ast.Compare) and any(isinstance(sign, (ast.Is, ast.IsNot)) for sign in node.ops):
                self.assertTrue(isinstance(node.comparators[0], ast.Constant) or
                                isinstance(node.left, ast.Name) and node.left.id == "self", where)

    def test_names(self):
        python = set(dir(builtins))
        for where, node in self.each_node():
            names = []
            if isinstance(node, ast.Name):
                names = [node.id]
                self.assertTrue(node.id not in python or
                                node.id in BUILTINS and isinstance(node.ctx, ast.Load), where)
            elif isinstance(node, ast.arg):
                names = [node.arg]
                self.assertNotIn(node.arg, python, where)
            elif isinstance(node, (ast.FunctionDef, ast.ClassDef)):
                names = [node.name]
            elif isinstance(node, ast.Attribute):
                self.assertFalse(node.attr.startswith("__") and node.attr != "__init__", where)
            for name in names:
                self.assertNotIn(name, WORDS, where)

    def test_no_second_meaning(self):
        for name, tree in parsed().items():
            taken = {node.name for node in tree.body if isinstance(node, ast.ClassDef)}
            taken |= {part.name for node in tree.body if isinstance(node, ast.ImportFrom) for part in node.names}
            for node in ast.walk(tree):
                if isinstance(node, ast.arg):
                    self.assertNotIn(node.arg, taken, f"{name}:{node.lineno}")
                elif isinstance(node, ast.Name) and isinstance(node.ctx, ast.Store):
                    self.assertNotIn(node.id, taken, f"{name}:{node.lineno}")

    def test_lists_in_the_place_of_generators(self):
        for where, node in self.each_node():
            if isinstance(node, ast.Call) and isinstance(node.func, ast.Name):
                if node.func.id in ("any", "all", "min", "max", "sum", "sorted"):
                    self.assertFalse(any(isinstance(part, ast.GeneratorExp) for part in node.args), where)

    def test_exponents_and_strings(self):
        for where, node in self.each_node():
            if isinstance(node, ast.BinOp) and isinstance(node.op, ast.Pow):
                self.assertIsInstance(node.right, (ast.Constant, ast.Name, ast.BinOp), where)
            if isinstance(node, ast.Constant) and isinstance(node.value, str):
                self.assertNotIn("%", node.value, where)

    def test_methods(self):
        own = own_names(parsed())
        for where, node in self.each_node():
            if isinstance(node, ast.Call) and isinstance(node.func, ast.Attribute):
                self.assertIn(node.func.attr, METHODS | own, where)

    def test_iteration_is_refused(self):
        for where, node in self.each_node():
            if isinstance(node, ast.ClassDef):
                names = [part.name for part in node.body if isinstance(part, ast.FunctionDef)]
                self.assertTrue("__getitem__" not in names or "__iter__" in names, where)


if __name__ == "__main__":
    unittest.main()
