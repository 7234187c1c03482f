"""The rules of the language that can be seen by reading the files of the package."""

import ast
import pathlib
import unittest

FOLDER = pathlib.Path(__file__).resolve().parent.parent / "lampstays"
FILES = sorted(FOLDER.rglob("*.py"))
BUILTINS = {
    "len", "range", "enumerate", "zip", "min", "max", "sum", "abs", "sorted", "reversed", "int", "str", "bool", "bytes",
    "list", "tuple", "dict", "set", "isinstance", "ord", "repr", "any", "all", "divmod", "property", "staticmethod",
    "classmethod", "super", "type", "ValueError", "TypeError", "KeyError", "IndexError", "NotImplemented",
}
LIBRARY = {"math": {"gcd", "isqrt"}}
DECORATORS = {"property", "staticmethod", "classmethod"}
FORBIDDEN = (
    ast.AsyncFunctionDef, ast.AsyncFor, ast.AsyncWith, ast.Await, ast.Import, ast.Global, ast.Div, ast.MatMult,
    ast.GeneratorExp,
)


def trees():
    for path in FILES:
        yield path, ast.parse(path.read_text(encoding="utf-8"))


class Language(unittest.TestCase):
    def test_files(self):
        for path in FOLDER.rglob("*"):
            if "__pycache__" not in path.parts:
                self.assertTrue(path.is_dir() or path.suffix == ".py", path)

    def test_sizes_and_characters(self):
        for path in FILES:
            text = path.read_text(encoding="utf-8")
            rows = text.split("\n")
            self.assertLessEqual(len(rows), 400, path)
            self.assertTrue(all(row == row.rstrip() and len(row) <= 120 for row in rows), path)
            self.assertTrue(all(sign == "\n" or " " <= sign <= "~" for sign in text), path)

    def test_functions_are_short_and_bare(self):
        for path, tree in trees():
            for node in ast.walk(tree):
                if isinstance(node, ast.FunctionDef):
                    self.assertLessEqual(node.end_lineno - node.lineno, 39, (path, node.name))
                    self.assertTrue(all(ast.unparse(item) in DECORATORS or ast.unparse(item).endswith(".setter")
                                        for item in node.decorator_list), (path, node.name))
                if isinstance(node, ast.ClassDef):
                    self.assertEqual(node.decorator_list, [], (path, node.name))

    def test_imports(self):
        names = {".".join(path.relative_to(FOLDER.parent).with_suffix("").parts): tree for path, tree in trees()}
        for path, tree in trees():
            for node in ast.walk(tree):
                if isinstance(node, ast.ImportFrom) and node.module in LIBRARY:
                    self.assertLessEqual({alias.name for alias in node.names}, LIBRARY[node.module], path)
                elif isinstance(node, ast.ImportFrom):
                    self.assertEqual(node.level, 0, path)
                    self.assertIn(node.module, names, path)
                    bound = [getattr(item, "name", None) or ast.unparse(item.targets[0])
                             for item in names[node.module].body if not isinstance(item, (ast.Expr, ast.ImportFrom))]
                    for alias in node.names:
                        self.assertIn(alias.name, bound, path)
                        self.assertIsNone(alias.asname, path)

    def test_what_is_not_allowed(self):
        for path, tree in trees():
            for node in ast.walk(tree):
                self.assertNotIsInstance(node, FORBIDDEN, (path, getattr(node, "lineno", None)))
                if isinstance(node, ast.Constant):
                    self.assertNotIsInstance(node.value, float, path)
                    self.assertFalse(isinstance(node.value, str) and "%" in node.value, path)

    def test_where_the_class_of_an_object_is_asked_for(self):
        for path, tree in trees():
            nodes = list(ast.walk(tree))
            named = [node.value for node in nodes if isinstance(node, ast.Attribute) and node.attr == "__name__"]
            for node in nodes:
                if isinstance(node, ast.Name) and node.id == "type":
                    self.assertIn(node, [call.func for call in named if isinstance(call, ast.Call)], path)

    def test_what_is_caught(self):
        for path, tree in trees():
            for node in ast.walk(tree):
                if isinstance(node, ast.ExceptHandler):
                    self.assertIsInstance(node.type, ast.Name, path)
                    self.assertNotIn(node.type.id, BUILTINS, path)

    def test_names(self):
        for path, tree in trees():
            bound, read = set(), set()
            for node in ast.walk(tree):
                if isinstance(node, ast.Name):
                    (read if isinstance(node.ctx, ast.Load) else bound).add(node.id)
                elif isinstance(node, (ast.FunctionDef, ast.ClassDef, ast.ExceptHandler)):
                    bound.add(node.name)
                elif isinstance(node, (ast.arg, ast.alias)):
                    bound.add(getattr(node, "arg", None) or node.name)
            self.assertEqual(sorted(read - bound - BUILTINS), [], path)
            self.assertEqual(sorted(bound & BUILTINS), [], path)


if __name__ == "__main__":
    unittest.main()
