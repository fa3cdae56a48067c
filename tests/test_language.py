"""The rules for the text of the program that a test can see (../shared/LANGUAGE.md)."""

import ast
import builtins
import os
import subprocess
import sys
import unittest

ROOT = os.path.dirname(os.path.dirname(os.path.abspath(__file__)))
PACKAGE = os.path.join(ROOT, "spoolbox")
FOLDERS = [folder for folder, _, _ in os.walk(PACKAGE) if "__pycache__" not in folder]
PATHS = [os.path.join(folder, name) for folder in FOLDERS for name in sorted(os.listdir(folder))]
FILES = [path for path in PATHS if os.path.isfile(path)]
INTERFACE = {
    "errors": ["SpoolboxError"],
    "wire/steps": ["put_steps", "get_steps"],
    "wire/sums": ["checksum", "four_bytes", "number_of"],
    "wire/stuffing": ["stuff", "unstuff"],
    "wire/leaves": ["write_leaf", "read_leaf", "bulk"],
    "wire/files": ["write_leaves", "places"],
    "model/presentation": ["is_presentation", "end_of", "keys_of"],
    "model/patches": ["change", "changed"],
    "model/bodies": ["head_body", "tags_body", "index_body", "end_body", "unit_body", "read_head", "read_tags",
                     "read_index", "read_end", "read_content"],
    "order/index": ["reach", "greedy", "best_index", "index_witness", "check_index"],
    "writing/writer": ["write", "leaves_of"],
    "reading/parts": ["Reader"],
}
METHODS = {("reading/parts", "Reader"): ["feed", "close", "given", "leaves", "copy"]}
# The builtins of rule L8, without those that a later rule takes away.
BUILTINS = """
    len range enumerate zip min max sum abs sorted reversed int str bool list tuple dict set frozenset isinstance ord
    repr any all divmod pow Exception ValueError TypeError KeyError IndexError LookupError ZeroDivisionError
    ArithmeticError OverflowError RuntimeError NotImplementedError StopIteration
""".split()


def text_of(path):
    with open(path, encoding="utf-8") as file:
        return file.read()


class TestLanguage(unittest.TestCase):
    def test_the_package_holds_only_its_files(self):
        for path in FILES:
            self.assertTrue(path.endswith(".py"), path)
        for folder in FOLDERS:
            self.assertIn("__init__.py", os.listdir(folder))

    def test_sizes_and_characters(self):
        for path in FILES:
            text = text_of(path)
            self.assertLessEqual(len(text.splitlines()), 399, path)
            self.assertEqual([line for line in text.splitlines() if len(line) > 120], [], path)
            self.assertEqual({sign for sign in text if sign != "\n" and not " " <= sign <= "~"}, set(), path)

    def test_functions_are_small_and_plain(self):
        for path in FILES:
            for node in ast.walk(ast.parse(text_of(path))):
                if isinstance(node, ast.FunctionDef):
                    self.assertLessEqual(node.end_lineno - node.lineno + 1, 40, (path, node.name))
                self.assertNotIsInstance(node, (ast.Global, ast.AsyncFunctionDef, ast.Div), path)

    def test_no_float_and_no_percent_sign_in_a_string(self):
        for path in FILES:
            for node in ast.walk(ast.parse(text_of(path))):
                if isinstance(node, ast.Constant):
                    self.assertNotIsInstance(node.value, float, path)
                    if isinstance(node.value, str):
                        self.assertNotIn("%", node.value, path)

    def test_no_builtin_but_those_that_are_allowed(self):
        for path in FILES:
            for node in ast.walk(ast.parse(text_of(path))):
                if isinstance(node, ast.Name) and hasattr(builtins, node.id):
                    self.assertIn(node.id, BUILTINS, path)
                if isinstance(node, ast.arg):
                    self.assertFalse(hasattr(builtins, node.arg), (path, node.arg))

    def test_an_error_is_created_where_it_is_raised(self):
        for path in FILES:
            for node in ast.walk(ast.parse(text_of(path))):
                if isinstance(node, ast.Raise) and node.exc is not None:
                    self.assertIsInstance(node.exc, ast.Call, path)
                    self.assertIsInstance(node.exc.func, ast.Name, path)

    def test_imports_are_from_the_package_by_full_names(self):
        for path in FILES:
            for node in ast.walk(ast.parse(text_of(path))):
                self.assertNotIsInstance(node, ast.Import, path)
                if isinstance(node, ast.ImportFrom):
                    self.assertEqual((node.level, node.module.split(".")[0]), (0, "spoolbox"), path)
                    source = ast.parse(text_of(os.path.join(ROOT, *node.module.split(".")) + ".py"))
                    names = {found.name for found in source.body if isinstance(found, (ast.FunctionDef, ast.ClassDef))}
                    for found in source.body:
                        if isinstance(found, ast.Assign):
                            names.add(found.targets[0].id)
                    self.assertLessEqual({name.name for name in node.names}, names, path)

    def test_the_interface_is_defined_in_its_files(self):
        for name, wanted in INTERFACE.items():
            tree = ast.parse(text_of(os.path.join(PACKAGE, *name.split("/")) + ".py"))
            found = [node.name for node in tree.body if isinstance(node, (ast.FunctionDef, ast.ClassDef))]
            self.assertLessEqual(set(wanted), set(found), name)

    def test_the_methods_of_the_interface_stand_in_their_classes(self):
        for (name, wanted), methods in METHODS.items():
            tree = ast.parse(text_of(os.path.join(PACKAGE, *name.split("/")) + ".py"))
            found, = [node for node in tree.body if isinstance(node, ast.ClassDef) and node.name == wanted]
            self.assertLessEqual(set(methods), {node.name for node in found.body if isinstance(node, ast.FunctionDef)})

    def test_each_file_can_be_imported_alone(self):
        for path in FILES:
            name = os.path.relpath(path, ROOT)[:-3].replace(os.sep, ".").removesuffix(".__init__")
            run = subprocess.run([sys.executable, "-W", "error", "-c", f"import {name}"], cwd=ROOT)
            self.assertEqual(run.returncode, 0, name)


if __name__ == "__main__":
    unittest.main()
