"""Some rules of the language that a look at the files can show."""

import ast
import builtins
import pathlib
import re
import unittest

PACKAGE = pathlib.Path(__file__).resolve().parent.parent / "fewtraps"
FILES = sorted(path for path in PACKAGE.rglob("*") if "__pycache__" not in path.parts)
BUILTINS = (
    "len range enumerate zip min max sum abs sorted reversed int str bool bytes list tuple dict set isinstance ord "
    "repr any all divmod ValueError"
).split()

METHODS = ("append clear copy count extend find get index insert items join keys pop remove reverse setdefault "
           "values").split()


def names_of(tree):
    """Return the names that a file defines, assigns or imports, at any depth."""
    found = set()
    for node in ast.walk(tree):
        if isinstance(node, (ast.FunctionDef, ast.ClassDef)):
            found.add(node.name)
        elif isinstance(node, ast.Name) and not isinstance(node.ctx, ast.Load):
            found.add(node.id)
        elif isinstance(node, (ast.arg, ast.alias)):
            found.add(node.arg if isinstance(node, ast.arg) else node.name)
    return found


class TestLanguage(unittest.TestCase):
    def each_tree(self):
        return [(path, ast.parse(path.read_text())) for path in FILES]

    def test_the_folder_holds_only_files_of_python(self):
        self.assertTrue(FILES)
        for path in FILES:
            self.assertTrue(path.is_file() and re.fullmatch("[a-z_]+[.]py", path.name), path)

    def test_sizes_and_signs(self):
        for path in FILES:
            lines = path.read_text(encoding="ascii").split("\n")
            self.assertLess(len(lines), 400, path)
            self.assertLessEqual(max(map(len, lines)), 120, path)
            self.assertFalse(re.search("[^ -~\n]", path.read_text()), path)
            self.assertNotIn("_wall", path.read_text(), path)

    def test_functions_have_at_most_40_lines(self):
        for path, tree in self.each_tree():
            for node in ast.walk(tree):
                if isinstance(node, ast.FunctionDef):
                    self.assertLessEqual(node.end_lineno - node.lineno, 39, node.name)

    def test_imports_are_of_the_package_and_used(self):
        for path, tree in self.each_tree():
            used = {node.id for node in ast.walk(tree) if isinstance(node, ast.Name)}
            for node in ast.walk(tree):
                self.assertNotIsInstance(node, ast.Import)
                if isinstance(node, ast.ImportFrom):
                    self.assertTrue(node in tree.body and node.module.startswith("fewtraps.") and node.level == 0)
                    for name in node.names:
                        self.assertTrue(name.asname is None and name.name in used, name.name)

    def test_no_files_import_each_other(self):
        asked = {}
        for path, tree in self.each_tree():
            imports = [node for node in ast.walk(tree) if isinstance(node, ast.ImportFrom)]
            asked[f"fewtraps.{path.stem}"] = {node.module for node in imports}
        while asked:
            ready = [name for name in asked if not asked[name] & set(asked)]
            self.assertTrue(ready, asked)
            for name in ready:
                del asked[name]

    def test_only_what_the_language_has(self):
        barred = (ast.AsyncFunctionDef, ast.Await, ast.Global, ast.Div, ast.JoinedStr, ast.Lambda, ast.GeneratorExp,
                  ast.Yield, ast.Starred)
        for path, tree in self.each_tree():
            known = names_of(tree) | set(BUILTINS)
            for node in ast.walk(tree):
                self.assertNotIsInstance(node, barred)
                if isinstance(node, ast.Name):
                    self.assertIn(node.id, known)
                if isinstance(node, ast.FunctionDef):
                    self.assertEqual(node.decorator_list, [])
                if isinstance(node, ast.Constant):
                    self.assertNotIsInstance(node.value, float)

    def test_no_variable_has_the_name_of_a_class_or_an_import(self):
        for path, tree in self.each_tree():
            kept = {name.name for node in tree.body if isinstance(node, ast.ImportFrom) for name in node.names}
            kept |= {node.name for node in tree.body if isinstance(node, (ast.ClassDef, ast.FunctionDef))}
            for function in [node for node in ast.walk(tree) if isinstance(node, ast.FunctionDef)]:
                inside = {node.id for node in ast.walk(function)
                          if isinstance(node, ast.Name) and not isinstance(node.ctx, ast.Load)}
                inside |= {node.arg for node in ast.walk(function) if isinstance(node, ast.arg)}
                self.assertFalse(inside & kept, (path, function.name))

    def test_no_name_is_a_method_and_an_attribute(self):
        methods, assigned, read = set(), set(), set()
        for path, tree in self.each_tree():
            for node in ast.walk(tree):
                if isinstance(node, ast.ClassDef):
                    methods |= {part.name for part in node.body if isinstance(part, ast.FunctionDef)}
                if isinstance(node, ast.Attribute):
                    (read if isinstance(node.ctx, ast.Load) else assigned).add(node.attr)
        self.assertFalse(methods & assigned)
        self.assertLessEqual(read, methods | assigned | set(METHODS))

    def test_names_that_are_barred(self):
        barred = "_wall|_pe_|_dcw_|_enum_|_cm_|_twin_re_|_lay_|_law_|_stub_|_sre|__(?!init__)"
        words = ("type typing enum Enum Generic Protocol ABC register mro elements open input law exec eval dir id "
                 "vars help super globals locals compile exit quit").split()
        for path, tree in self.each_tree():
            for name in names_of(tree):
                self.assertFalse(re.match(barred, name), (path, name))
            for node in ast.walk(tree):
                if isinstance(node, ast.Name):
                    self.assertNotIn(node.id, words, path)
                if isinstance(node, ast.Compare) and any(isinstance(op, (ast.Is, ast.IsNot)) for op in node.ops):
                    self.assertTrue(isinstance(node.comparators[-1], ast.Constant), (path, node.lineno))

    def test_no_name_of_a_builtin_is_given_another_meaning(self):
        for path, tree in self.each_tree():
            methods = {part.name for node in ast.walk(tree) if isinstance(node, ast.ClassDef)
                       for part in node.body if isinstance(part, ast.FunctionDef)}
            # A method may have the name of a builtin that the language does not have.
            let = {"_"} | (methods - set(BUILTINS))
            self.assertFalse(names_of(tree) & (set(dir(builtins)) - let), path)
