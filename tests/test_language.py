"""Some rules of the language that a look at the files can show."""

import ast
import builtins
import pathlib
import re
import unittest

PACKAGE = pathlib.Path(__file__).resolve().parent.parent / "fewtraps"
FILES = sorted(path for path in PACKAGE.rglob("*") if "__pycache__" not in path.parts)
BUILTINS = (
    "len range enumerate zip min max sum abs sorted reversed int str bool bytes list tuple dict set isinstance ord "
    "repr any all divmod ValueError"
).split()


def names_of(tree):
    """Return the names that a file defines, assigns or imports, at any depth."""
    found = set()
    for node in ast.walk(tree):
        if isinstance(node, (ast.FunctionDef, ast.ClassDef)):
            found.add(node.name)
        elif isinstance(node, ast.Name) and not isinstance(node.ctx, ast.Load):
            found.add(node.id)
        elif isinstance(node, (ast.arg, ast.alias)):
            found.add(node.arg if isinstance(node, ast.arg) else node.name)
    return found


class TestLanguage(unittest.TestCase):
    def each_tree(self):
        return [(path, ast.parse(path.read_text())) for path in FILES]

    def test_the_folder_holds_only_files_of_python(self):
        self.assertTrue(FILES)
        for path in FILES:
            self.assertTrue(path.is_file() and re.fullmatch("[a-z_]+[.]py", path.name), path)

    def test_sizes_and_signs(self):
        for path in FILES:
            lines = path.read_text(encoding="ascii").split("\n")
            self.assertLess(len(lines), 400, path)
            self.assertLessEqual(max(map(len, lines)), 120, path)
            self.assertFalse(re.search("[^ -~\n]", path.read_text()), path)
            self.assertNotIn("_wall", path.read_text(), path)

    def test_functions_have_at_most_40_lines(self):
        for path, tree in self.each_tree():
            for node in ast.walk(tree):
                if isinstance(node, ast.FunctionDef):
                    self.assertLessEqual(node.end_lineno - node.lineno, 39, node.name)

    def test_imports_are_of_the_package_and_used(self):
        for path, tree in self.each_tree():
            used = {node.id for node in ast.walk(tree) if isinstance(node, ast.Name)}
            for node in ast.walk(tree):
                self.assertNotIsInstance(node, ast.Import)
                if isinstance(node, ast.ImportFrom):
                    self.assertTrue(node in tree.body and node.module.startswith("fewtraps.") and node.level == 0)
                    for name in node.names:
                        self.assertTrue(name.asname is None and name.name in used, name.name)

    def test_no_files_import_each_other(self):
        asked = {}
        for path, tree in self.each_tree():
            asked[f"fewtraps.{path.stem}"] = {node.module for node in ast.walk(tree) if isinstance(node, ast.ImportFrom)}
        while asked:
            ready = [name for name in asked if not asked[name] & set(asked)]
            self.assertTrue(ready, asked)
            for name in ready:
                del asked[name]

    def test_only_what_the_language_has(self):
        barred = (ast.AsyncFunctionDef, ast.Await, ast.Global, ast.Div, ast.JoinedStr, ast.Lambda, ast.GeneratorExp,
                  ast.Yield, ast.Starred)
        for path, tree in self.each_tree():
            known = names_of(tree) | set(BUILTINS)
            for node in ast.walk(tree):
                self.assertNotIsInstance(node, barred)
                if isinstance(node, ast.Name):
                    self.assertIn(node.id, known)
                if isinstance(node, ast.FunctionDef):
                    self.assertEqual(node.decorator_list, [])
                if isinstance(node, ast.Constant):
                    self.assertNotIsInstance(node.value, float)

    def test_no_name_of_a_builtin_is_given_another_meaning(self):
        for path, tree in self.each_tree():
            self.assertFalse(names_of(tree) & (set(dir(builtins)) - {"_"}), path)
