"""Some rules of the language that the package is written in, those that a short test can see."""

import ast
import builtins
import pathlib
import re
import unittest

import liveswap

FOLDER = pathlib.Path(liveswap.__file__).parent
FILES = sorted(FOLDER.glob("*.py"))
BUILTINS = set("""
    len range enumerate zip min max sum abs sorted reversed int str bool list tuple dict set isinstance
    repr any all divmod type ValueError KeyError IndexError LookupError
""".split())
METHODS = set("""
    append clear copy count endswith extend find get index insert items join keys pop remove replace
    reverse setdefault split startswith strip update values
""".split())


class Language(unittest.TestCase):
    def each(self):
        texts = [file.read_text(encoding="utf-8") for file in FILES]
        return [(text, ast.parse(text)) for text in texts]

    def test_the_folder_holds_only_plain_files(self):
        for path in FOLDER.iterdir():
            if path.name != "__pycache__":
                self.assertRegex(path.name, r"^[a-z_][a-z0-9_]*\.py$")

    def test_sizes_and_characters(self):
        for text, tree in self.each():
            lines = text.split("\n")
            self.assertLess(len(lines), 400)
            self.assertLessEqual(max(map(len, lines)), 120)
            self.assertIsNone(re.search(r"[^ -~\n]", text))
            for node in ast.walk(tree):
                if isinstance(node, ast.FunctionDef):
                    self.assertLessEqual(node.end_lineno - node.lineno + 1, 40, node.name)
                    self.assertEqual(node.decorator_list, [])

    def test_imports_are_of_the_package_by_full_names(self):
        for _, tree in self.each():
            for node in ast.walk(tree):
                self.assertNotIsInstance(node, ast.Import)
                if isinstance(node, ast.ImportFrom):
                    self.assertRegex(node.module, r"^liveswap\.[a-z]+$")
                    self.assertEqual(node.level, 0)
                    self.assertIsNone(next((name for name in node.names if name.asname or name.name == "*"), None))

    def test_builtins(self):
        for _, tree in self.each():
            for node in ast.walk(tree):
                if isinstance(node, ast.Name) and hasattr(builtins, node.id):
                    self.assertIn(node.id, BUILTINS)
                    self.assertIsInstance(node.ctx, ast.Load, node.id)
                if isinstance(node, ast.arg):
                    self.assertFalse(hasattr(builtins, node.arg), node.arg)
                if isinstance(node, (ast.FunctionDef, ast.ClassDef)) and not node.name.startswith("__"):
                    self.assertFalse(hasattr(builtins, node.name), node.name)

    def test_methods(self):
        own = set()
        for _, tree in self.each():
            own |= {node.name for node in ast.walk(tree) if isinstance(node, ast.FunctionDef)}
        for _, tree in self.each():
            for node in ast.walk(tree):
                if isinstance(node, ast.Call) and isinstance(node.func, ast.Attribute):
                    self.assertIn(node.func.attr, METHODS | own)

    def test_statements_and_values(self):
        barred = (ast.AsyncFunctionDef, ast.Global, ast.Await, ast.Div, ast.MatMult, ast.AnnAssign)
        for _, tree in self.each():
            for node in ast.walk(tree):
                self.assertNotIsInstance(node, barred)
                if isinstance(node, ast.Constant):
                    self.assertIn(type(node.value), (int, str, bool, type(None)))

    def test_each_name_is_bound_once_in_its_file(self):
        for _, tree in self.each():
            names = []
            for node in tree.body:
                if isinstance(node, ast.ImportFrom):
                    names += [name.name for name in node.names]
                elif isinstance(node, ast.Assign):
                    names += [target.id for target in node.targets]
                elif isinstance(node, (ast.FunctionDef, ast.ClassDef)):
                    names.append(node.name)
                else:
                    self.assertIsInstance(node, ast.Expr)
                    self.assertIs(type(node.value.value), str)
            self.assertEqual(len(names), len(set(names)))


if __name__ == "__main__":
    unittest.main()
