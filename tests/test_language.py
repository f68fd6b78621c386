"""What LANGUAGE.md and the interface ask of the files of the package."""

import ast
import builtins
import pathlib
import re
import unittest

PACKAGE = pathlib.Path(__file__).resolve().parent.parent / "manypanes"

BARRED_NAMES = re.compile(r"law_.*|tests?|testing|test_.*|site|conftest|sitecustomize|usercustomize")

BUILTINS = [name for name in dir(builtins) if not name.startswith("__")]

# The names of the interface, file by file.
FUNCTIONS = {
    "cells.py": ["is_point", "is_wide", "utf8"],
    "styles.py": ["styled"],
    "picture.py": ["difference"],
    "drawing.py": ["draw"],
    "layout.py": ["least", "share", "fitted", "boxes", "divided", "without", "moved", "panes"],
}
CLASSES = {
    "errors.py": {"PaneError": [], "NoPane": [], "NoRoom": [], "LastPane": [],
                  "NoWindow": [], "NoClient": []},
    "parser.py": {"Parser": ["take", "resting"]},
    "picture.py": {"Picture": ["__init__", "__eq__"]},
    "terminal.py": {"Terminal": ["__init__", "feed", "resize", "picture", "state", "resting", "text", "answers"]},
    "session.py": {"Session": ["__init__", "write", "press", "taken", "divide", "close", "focus", "border", "zoom",
                               "window", "show", "back", "size", "places", "screen", "picture", "attach", "detach",
                               "refit", "seen", "pull"]},
}


def sources():
    """Returns the files of the package, each with its text."""
    return [(path, path.read_text("utf-8")) for path in sorted(PACKAGE.rglob("*.py"))]


def defined(name, kind):
    """Returns what a file of the package defines at its top, by its name."""
    tree = ast.parse((PACKAGE / name).read_text("utf-8"))
    return {node.name: node for node in tree.body if isinstance(node, kind)}


class FileTest(unittest.TestCase):
    def test_files_and_names(self):
        found = [path for path in PACKAGE.rglob("*") if "__pycache__" not in path.parts]
        self.assertLessEqual(len(found), 100)
        for path in found:
            if path.is_dir():
                self.assertTrue((path / "__init__.py").is_file(), path)
                self.assertFalse(path.with_suffix(".py").exists(), path)
            else:
                self.assertEqual(path.suffix, ".py", path)
            self.assertRegex(path.stem, r"^([a-z][a-z0-9_]*|__init__|__main__)$")
            self.assertIsNone(BARRED_NAMES.fullmatch(path.stem), path)
            self.assertNotIn(path.stem, BUILTINS)

    def test_the_package_has_an_init(self):
        self.assertTrue((PACKAGE / "__init__.py").is_file())

    def test_lengths_of_files_and_lines(self):
        for path, text in sources():
            lines = text.split("\n")
            self.assertLessEqual(len(lines), 399, path)
            for number, line in enumerate(lines, 1):
                self.assertLessEqual(len(line), 120, (path, number))

    def test_lengths_of_functions(self):
        for path, text in sources():
            for node in ast.walk(ast.parse(text)):
                if isinstance(node, (ast.FunctionDef, ast.Lambda)):
                    self.assertLessEqual(node.end_lineno - node.lineno + 1, 40, (path, node.lineno))

    def test_characters(self):
        for path, _ in sources():
            for number, line in enumerate(path.read_bytes().split(b"\n"), 1):
                self.assertTrue(all(32 <= byte <= 126 for byte in line), (path, number))

    def test_imports(self):
        for path, text in sources():
            if path.name == "__main__.py":
                continue
            for node in ast.walk(ast.parse(text)):
                self.assertNotIsInstance(node, ast.Import, path)
                if isinstance(node, ast.ImportFrom):
                    self.assertEqual(node.level, 0, path)
                    self.assertRegex(node.module, r"^(manypanes\..*|__future__|heapq|math|itertools|collections)$")
                    self.assertNotIn("*", [alias.name for alias in node.names])


class InterfaceTest(unittest.TestCase):
    def test_functions_are_defined_in_their_files(self):
        for name, expected in FUNCTIONS.items():
            found = defined(name, ast.FunctionDef)
            for function in expected:
                self.assertIn(function, found)

    def test_classes_and_methods_are_defined_in_their_files(self):
        for name, expected in CLASSES.items():
            found = defined(name, ast.ClassDef)
            for kind, methods in expected.items():
                self.assertIn(kind, found)
                body = [node.name for node in found[kind].body if isinstance(node, ast.FunctionDef)]
                for method in methods:
                    self.assertIn(method, body)


if __name__ == "__main__":
    unittest.main()
