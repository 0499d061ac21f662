"""The rules of ../shared/LANGUAGE.md that can be seen line by line: L1, L2, L4, L6 to L10, L14 to L18, L20, L27."""
import ast
import builtins
import io
import tokenize
import unittest
from pathlib import Path

PACKAGE = Path(__file__).resolve().parent.parent / "risingday"
LIBRARY = ("heapq", "math", "itertools")
BUILTINS = set("""len range enumerate zip min max sum abs sorted reversed int str bool bytes list tuple dict set frozenset
isinstance ord repr any all divmod iter next map super property staticmethod classmethod object float Exception
ValueError TypeError KeyError IndexError LookupError ZeroDivisionError ArithmeticError OverflowError RuntimeError
NotImplementedError AttributeError StopIteration NotImplemented print""".split())
BARRED = {"register", "mro", "elements", "open", "input", "law", "version_info", "with_traceback", "add_note"}


def files():
    return sorted(PACKAGE.glob("*.py"))


def trees():
    for path in files():
        yield path.name, ast.parse(path.read_text(encoding="utf-8"))


def nodes(*kinds):
    for name, tree in trees():
        for node in ast.walk(tree):
            if isinstance(node, kinds):
                yield f"{name}:{getattr(node, 'lineno', 0)}", node


def defined_in(module):
    """The names of the functions, classes and constants that a module of the package defines."""
    path = PACKAGE.parent / (module.replace(".", "/") + ".py")
    names = set()
    for part in ast.parse(path.read_text(encoding="utf-8")).body:
        if isinstance(part, (ast.FunctionDef, ast.ClassDef)):
            names.add(part.name)
        if isinstance(part, ast.Assign):
            names.update(target.id for target in part.targets)
    return names


class Language(unittest.TestCase):
    def test_files_and_sizes(self):
        self.assertTrue((PACKAGE / "__init__.py").exists())
        self.assertLessEqual(len(files()), 100)
        for path in PACKAGE.iterdir():
            self.assertTrue(path.suffix == ".py" or path.name == "__pycache__", path.name)
        for path in files():
            lines = path.read_text(encoding="utf-8").split("\n")
            self.assertLessEqual(len(lines), 400, path.name)
            for number, line in enumerate(lines, 1):
                self.assertLessEqual(len(line), 120, f"{path.name}:{number}")
                self.assertTrue(all(" " <= sign <= "~" for sign in line), f"{path.name}:{number}")
        for where, node in nodes(ast.FunctionDef):
            self.assertLessEqual(node.end_lineno - node.lineno + 1, 40, where)

    def test_imports(self):
        for where, node in nodes(ast.Import):
            self.assertEqual((where.split(":")[0], [part.name for part in node.names]), ("__main__.py", ["sys"]))
        for where, node in nodes(ast.ImportFrom):
            self.assertEqual(node.level, 0, where)
            if node.module.startswith("risingday."):
                for part in node.names:
                    self.assertIn(part.name, defined_in(node.module), where)
            else:
                self.assertIn(node.module, (*LIBRARY, "__future__"), where)

    def test_no_file_imports_itself_through_others(self):
        needs = {}
        for name, tree in trees():
            needs[name] = {node.module.split(".")[1] + ".py" for node in ast.walk(tree)
                           if isinstance(node, ast.ImportFrom) and node.module.startswith("risingday.")}
        while needs:
            done = [name for name in needs if not needs[name] & set(needs)]
            self.assertTrue(done, f"these import each other: {sorted(needs)}")
            for name in done:
                del needs[name]

    def test_statements_that_are_not_used(self):
        for where, node in nodes(ast.Global, ast.AsyncFunctionDef, ast.Await, ast.Div):
            self.fail(where)
        for where, node in nodes(ast.ExceptHandler):
            self.assertIsNotNone(node.type, where)
        for where, node in nodes(ast.Constant):
            self.assertNotIsInstance(node.value, (float, complex), where)
            if isinstance(node.value, str):
                self.assertNotIn("%", node.value, where)

    def test_builtins(self):
        every = set(dir(builtins))
        for where, node in nodes(ast.Name):
            if isinstance(node.ctx, ast.Load):
                self.assertTrue(node.id in BUILTINS or node.id not in every, f"{where} {node.id}")
            else:
                self.assertNotIn(node.id, every, where)
        for where, node in nodes(ast.arg):
            self.assertNotIn(node.arg, every | BARRED, where)
        for where, node in nodes(ast.Attribute):
            self.assertNotIn(node.attr, BARRED | {"format", "format_map"}, where)

    def test_no_name_of_a_function_is_an_import_or_a_class_of_its_file(self):
        for name, tree in trees():
            told = {part.asname or part.name for node in tree.body if isinstance(node, ast.ImportFrom) for part in node.names}
            told |= {node.name for node in tree.body if isinstance(node, ast.ClassDef)}
            for node in ast.walk(tree):
                if isinstance(node, ast.Name) and isinstance(node.ctx, ast.Store):
                    self.assertNotIn(node.id, told, f"{name}:{node.lineno}")
                if isinstance(node, ast.arg):
                    self.assertNotIn(node.arg, told, f"{name}:{node.lineno}")

    def test_no_name_is_a_method_and_an_attribute(self):
        methods, attributes = set(), set()
        for _, node in nodes(ast.ClassDef):
            methods |= {part.name for part in node.body if isinstance(part, ast.FunctionDef)}
        for _, node in nodes(ast.Attribute):
            if isinstance(node.ctx, ast.Store):
                attributes.add(node.attr)
        self.assertEqual(methods & attributes, set())

    def test_lists_in_the_place_of_generators(self):
        for where, node in nodes(ast.GeneratorExp, ast.Yield, ast.YieldFrom):
            self.fail(where)

    def test_is_with_none_true_and_false_alone(self):
        for where, node in nodes(ast.Compare):
            for sign, right in zip(node.ops, node.comparators):
                if isinstance(sign, (ast.Is, ast.IsNot)):
                    self.assertIsInstance(right, (ast.Constant, ast.Name), where)

    def test_words_that_do_not_occur(self):
        words = {"typing", "enum", "Enum", "namedtuple", "dataclass", "overload", "contextmanager", "type"}
        for path in files():
            text = path.read_text(encoding="utf-8")
            for token in tokenize.generate_tokens(io.StringIO(text).readline):
                if token.type == tokenize.NAME:
                    self.assertNotIn(token.string, words, f"{path.name}:{token.start[0]}")


if __name__ == "__main__":
    unittest.main()
