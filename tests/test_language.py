"""Some of the rules of LANGUAGE.md, as far as a look at the code tells them."""

import ast
import pathlib
import re
import unittest

FOLDER = pathlib.Path(__file__).resolve().parent.parent / "anywithin"

BUILTINS = set("""
    len range enumerate zip min max sum abs sorted reversed int str bool list tuple dict set isinstance ord repr any all
    divmod Exception ValueError TypeError KeyError IndexError LookupError ZeroDivisionError NotImplemented
""".split())
METHODS = set("""
    append clear copy count endswith extend find get index insert isalnum isalpha isdigit islower isspace isupper items
    join keys ljust lower lstrip partition pop remove replace reverse rfind rjust rpartition rsplit rstrip setdefault
    split splitlines startswith strip update upper values zfill bit_length
""".split())
LIBRARY = ("heapq", "math", "itertools", "collections")
UNUSED = (ast.GeneratorExp, ast.Yield, ast.YieldFrom, ast.Global, ast.Import, ast.Div, ast.AsyncFunctionDef, ast.Try)


def bound(node):
    """All names that a piece of code binds."""
    found = set()
    for part in ast.walk(node):
        if isinstance(part, ast.Name) and isinstance(part.ctx, ast.Store):
            found.add(part.id)
        if isinstance(part, ast.arg):
            found.add(part.arg)
        if isinstance(part, (ast.FunctionDef, ast.ClassDef)):
            found.add(part.name)
        if isinstance(part, ast.ImportFrom):
            found.update(one.name for one in part.names)
    return found


class Language(unittest.TestCase):

    @classmethod
    def setUpClass(cls):
        cls.texts = {path.stem: path.read_text() for path in FOLDER.iterdir() if path.suffix == ".py"}
        cls.trees = {name: ast.parse(text) for name, text in cls.texts.items()}

    def test_files(self):
        for path in FOLDER.iterdir():
            self.assertTrue(path.name == "__pycache__" or re.fullmatch("[a-z0-9_]+[.]py", path.name), path)
        for name, text in self.texts.items():
            lines = text.split("\n")
            self.assertLess(len(lines), 401, name)
            for line in lines:
                self.assertLess(len(line), 121, name)
                self.assertTrue(all(" " <= sign <= "~" for sign in line), name)

    def test_functions_are_small(self):
        for name, tree in self.trees.items():
            for node in ast.walk(tree):
                if isinstance(node, ast.FunctionDef):
                    self.assertLess(node.end_lineno - node.lineno, 40, (name, node.name))

    def test_imports(self):
        behind = {name: [] for name in self.trees}
        for name, tree in self.trees.items():
            for node in ast.walk(tree):
                if isinstance(node, ast.ImportFrom) and node.module not in LIBRARY:
                    package, module = node.module.split(".")
                    self.assertEqual((package, node.level), ("anywithin", 0), name)
                    there = {part.name for part in self.trees[module].body if hasattr(part, "name")}
                    there |= {part.targets[0].id for part in self.trees[module].body if isinstance(part, ast.Assign)}
                    for one in node.names:
                        self.assertIn(one.name, there, name)
                    behind[name].append(module)
        while behind:
            free = [name for name in behind if not any(other in behind for other in behind[name])]
            self.assertTrue(free, f"imports go round: {sorted(behind)}")
            for name in free:
                del behind[name]

    def test_names_and_methods(self):
        own = {node.name for tree in self.trees.values() for node in ast.walk(tree) if isinstance(node, ast.FunctionDef)}
        for name, tree in self.trees.items():
            known = bound(tree) | BUILTINS
            for node in ast.walk(tree):
                if isinstance(node, ast.Name):
                    self.assertIn(node.id, known, name)
                if isinstance(node, ast.Call) and isinstance(node.func, ast.Attribute):
                    self.assertIn(node.func.attr, METHODS | own, name)

    def test_what_is_not_used(self):
        for name, tree in self.trees.items():
            for node in ast.walk(tree):
                if isinstance(node, UNUSED):
                    self.assertTrue(isinstance(node, ast.Try) and self.catches_own(node), (name, node))
                if isinstance(node, ast.Constant):
                    self.assertNotIsInstance(node.value, (float, complex), name)
                if isinstance(node, ast.FunctionDef):
                    self.assertEqual(node.decorator_list, [], name)

    def test_no_star_in_an_index(self):
        for name, tree in self.trees.items():
            for node in ast.walk(tree):
                if isinstance(node, ast.Subscript):
                    stars = [part for part in ast.walk(node.slice) if isinstance(part, ast.Starred)]
                    self.assertEqual(stars, [], (name, node.lineno))

    def catches_own(self, node):
        """Whether a try catches nothing but the package's own errors."""
        own = {part.name for name in ("errors", "refusals") for part in self.trees[name].body
               if isinstance(part, ast.ClassDef)}
        return all(isinstance(one.type, ast.Name) and one.type.id in own for one in node.handlers)
