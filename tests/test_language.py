"""The rules for the text of the program that a test can see (../shared/LANGUAGE.md)."""

import ast
import builtins
import os
import subprocess
import sys
import unittest

ROOT = os.path.dirname(os.path.dirname(os.path.abspath(__file__)))
PACKAGE = os.path.join(ROOT, "spoolbox")
FOLDERS = [folder for folder, _, _ in os.walk(PACKAGE) if "__pycache__" not in folder]
PATHS = [os.path.join(folder, name) for folder in FOLDERS for name in sorted(os.listdir(folder))]
FILES = [path for path in PATHS if os.path.isfile(path)]
# Each function of the interface as it is called, and each class.
INTERFACE = {
    "errors": ["SpoolboxError"],
    "wire/steps": ["put_steps(number)", "get_steps(row, at)"],
    "wire/sums": ["checksum(row)", "four_bytes(number)", "number_of(row)"],
    "wire/stuffing": ["stuff(row)", "unstuff(piece)"],
    "wire/leaves": ["write_leaf(leaf)", "read_leaf(writing)", "bulk(leaf)"],
    "wire/files": ["write_leaves(leaves)", "places(row)"],
    "model/presentation": ["is_presentation(value)", "end_of(presentation)", "keys_of(units)"],
    "model/patches": ["change(old, new)", "changed(old, parts)"],
    "model/bodies": ["head_body(presentation)", "tags_body(tags)", "index_body(entries)", "end_body(count, total)",
                     "unit_body(unit, before)", "read_head(body)", "read_tags(body)", "read_index(body)",
                     "read_end(body)", "read_content(body, before)"],
    "order/delay": ["in_order(units)", "delay(leaves, rate)", "witness(leaves, rate)",
                    "check_delay(leaves, rate, number, witness)", "file_delay(file, rate)"],
    "order/index": ["reach(keys, index)", "greedy(row, w)", "best_index(keys, count)", "index_witness(keys, count)",
                    "check_index(keys, count, index, number, witness)"],
    "writing/writer": ["write(presentation, stamp, most=100)", "leaves_of(presentation, stamp, order, entries)"],
    "reading/whole": ["read(data)", "is_file(data)"],
    "reading/parts": ["Reader"],
    "editing/shown": ["shown(presentation, start, stop=None)", "whole_show(presentation)"],
    "editing/entering": ["entries(file, time)", "enter(file, time)"],
    "editing/cutting": ["cut(file, start, stop, count, stamp)"],
    "editing/joining": ["join(first, second, count, stamp)"],
    "saving/salvage": ["salvage(row)", "stamps(finds)", "roll(finds, stamp)", "gaps(leaves)"],
    "saving/rebuild": ["sound(leaves)", "rebuilt(leaves)", "rebuild(row, stamp, count)"],
}
METHODS = {
    ("errors", "SpoolboxError"): ["__init__(self, at)"],
    ("reading/parts", "Reader"): ["__init__(self)", "feed(self, part)", "close(self)", "given(self)", "leaves(self)",
                                  "copy(self)"],
}
# The builtins of rule L8, without those that a later rule takes away.
BUILTINS = """
    len range enumerate zip min max sum abs sorted reversed int str bool list tuple dict set frozenset isinstance ord
    repr any all divmod pow Exception ValueError TypeError KeyError IndexError LookupError ZeroDivisionError
    ArithmeticError OverflowError RuntimeError NotImplementedError StopIteration
""".split()


def text_of(path):
    with open(path, encoding="utf-8") as file:
        return file.read()


def calls_in(node):
    """How the functions are called that are defined directly in a file or a class."""
    return [f"{found.name}({ast.unparse(found.args)})" for found in node.body if isinstance(found, ast.FunctionDef)]


class TestLanguage(unittest.TestCase):
    def test_the_package_holds_only_its_files(self):
        for path in FILES:
            self.assertTrue(path.endswith(".py"), path)
        for folder in FOLDERS:
            self.assertIn("__init__.py", os.listdir(folder))

    def test_sizes_and_characters(self):
        for path in FILES:
            text = text_of(path)
            self.assertLessEqual(len(text.splitlines()), 399, path)
            self.assertEqual([line for line in text.splitlines() if len(line) > 120], [], path)
            self.assertEqual({sign for sign in text if sign != "\n" and not " " <= sign <= "~"}, set(), path)

    def test_functions_are_small_and_plain(self):
        for path in FILES:
            for node in ast.walk(ast.parse(text_of(path))):
                if isinstance(node, ast.FunctionDef):
                    self.assertLessEqual(node.end_lineno - node.lineno + 1, 40, (path, node.name))
                self.assertNotIsInstance(node, (ast.Global, ast.AsyncFunctionDef, ast.Div), path)

    def test_no_float_and_no_percent_sign_in_a_string(self):
        for path in FILES:
            for node in ast.walk(ast.parse(text_of(path))):
                if isinstance(node, ast.Constant):
                    self.assertNotIsInstance(node.value, float, path)
                    if isinstance(node.value, str):
                        self.assertNotIn("%", node.value, path)

    def test_no_builtin_but_those_that_are_allowed(self):
        for path in FILES:
            for node in ast.walk(ast.parse(text_of(path))):
                if isinstance(node, ast.Name) and hasattr(builtins, node.id):
                    self.assertIn(node.id, BUILTINS, path)
                if isinstance(node, ast.arg):
                    self.assertFalse(hasattr(builtins, node.arg), (path, node.arg))

    def test_an_error_is_created_where_it_is_raised(self):
        for path in FILES:
            for node in ast.walk(ast.parse(text_of(path))):
                if isinstance(node, ast.Raise) and node.exc is not None:
                    self.assertIsInstance(node.exc, ast.Call, path)
                    self.assertIsInstance(node.exc.func, ast.Name, path)

    def test_imports_are_from_the_package_by_full_names(self):
        for path in FILES:
            for node in ast.walk(ast.parse(text_of(path))):
                self.assertNotIsInstance(node, ast.Import, path)
                if isinstance(node, ast.ImportFrom):
                    self.assertEqual((node.level, node.module.split(".")[0]), (0, "spoolbox"), path)
                    source = ast.parse(text_of(os.path.join(ROOT, *node.module.split(".")) + ".py"))
                    names = {found.name for found in source.body if isinstance(found, (ast.FunctionDef, ast.ClassDef))}
                    for found in source.body:
                        if isinstance(found, ast.Assign):
                            names.add(found.targets[0].id)
                    self.assertLessEqual({name.name for name in node.names}, names, path)

    def test_the_interface_is_defined_in_its_files(self):
        for name, wanted in INTERFACE.items():
            tree = ast.parse(text_of(os.path.join(PACKAGE, *name.split("/")) + ".py"))
            found = calls_in(tree) + [node.name for node in tree.body if isinstance(node, ast.ClassDef)]
            self.assertLessEqual(set(wanted), set(found), name)

    def test_the_methods_of_the_interface_stand_in_their_classes(self):
        for (name, wanted), methods in METHODS.items():
            tree = ast.parse(text_of(os.path.join(PACKAGE, *name.split("/")) + ".py"))
            found, = [node for node in tree.body if isinstance(node, ast.ClassDef) and node.name == wanted]
            self.assertLessEqual(set(methods), set(calls_in(found)))

    def test_each_file_can_be_imported_alone(self):
        for path in FILES:
            name = os.path.relpath(path, ROOT)[:-3].replace(os.sep, ".").removesuffix(".__init__")
            run = subprocess.run([sys.executable, "-W", "error", "-c", f"import {name}"], cwd=ROOT)
            self.assertEqual(run.returncode, 0, name)


if __name__ == "__main__":
    unittest.main()
