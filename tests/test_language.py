"""Some of the rules of LANGUAGE.md, as far as a look at the code tells them."""

import ast
import pathlib
import re
import unittest

FOLDER = pathlib.Path(__file__).resolve().parent.parent / "anywithin"

BUILTINS = set("""
    len range enumerate zip min max sum abs sorted reversed int str bool list tuple dict set isinstance ord repr any all
    divmod Exception ValueError TypeError KeyError IndexError LookupError ZeroDivisionError NotImplemented
""".split())
METHODS = set("""
    append clear copy count endswith extend find get index insert isalnum isalpha isdigit islower isspace isupper items
    join keys ljust lower lstrip partition pop remove replace reverse rfind rjust rpartition rsplit rstrip setdefault
    split splitlines startswith strip update upper values zfill bit_length
""".split())
LIBRARY = ("heapq", "math", "itertools", "collections")
UNUSED = (ast.GeneratorExp, ast.Yield, ast.YieldFrom, ast.Global, ast.Import, ast.Div, ast.AsyncFunctionDef, ast.Try)


def bound(node):
    """All names that a piece of code binds."""
    found = set()
    for part in ast.walk(node):
        if isinstance(part, ast.Name) and isinstance(part.ctx, ast.Store):
            found.add(part.id)
        if isinstance(part, ast.arg):
            found.add(part.arg)
        if isinstance(part, (ast.FunctionDef, ast.ClassDef)):
            found.add(part.name)
        if isinstance(part, ast.ImportFrom):
            found.update(one.name for one in part.names)
        if isinstance(part, ast.ExceptHandler) and part.name is not None:
            found.add(part.name)
    return found


class Language(unittest.TestCase):

    @classmethod
    def setUpClass(cls):
        cls.texts = {path.stem: path.read_text() for path in FOLDER.iterdir() if path.suffix == ".py"}
        cls.trees = {name: ast.parse(text) for name, text in cls.texts.items()}

    def test_files(self):
        for path in FOLDER.iterdir():
            self.assertTrue(path.name == "__pycache__" or re.fullmatch("[a-z0-9_]+[.]py", path.name), path)
        for name, text in self.texts.items():
            lines = text.split("\n")
            self.assertLess(len(lines), 401, name)
            for line in lines:
                self.assertLess(len(line), 121, name)
                self.assertTrue(all(" " <= sign <= "~" for sign in line), name)

    def test_functions_are_small(self):
        for name, tree in self.trees.items():
            for node in ast.walk(tree):
                if isinstance(node, ast.FunctionDef):
                    self.assertLess(node.end_lineno - node.lineno, 40, (name, node.name))

    def test_imports(self):
        behind = {name: [] for name in self.trees}
        for name, tree in self.trees.items():
            for node in ast.walk(tree):
                if isinstance(node, ast.ImportFrom) and node.module not in LIBRARY:
                    package, module = node.module.split(".")
                    self.assertEqual((package, node.level), ("anywithin", 0), name)
                    there = {part.name for part in self.trees[module].body if hasattr(part, "name")}
                    there |= {part.targets[0].id for part in self.trees[module].body if isinstance(part, ast.Assign)}
                    for one in node.names:
                        self.assertIn(one.name, there, name)
                    behind[name].append(module)
        while behind:
            free = [name for name in behind if not any(other in behind for other in behind[name])]
            self.assertTrue(free, f"imports go round: {sorted(behind)}")
            for name in free:
                del behind[name]

    def test_names_and_methods(self):
        own = {node.name for tree in self.trees.values() for node in ast.walk(tree) if isinstance(node, ast.FunctionDef)}
        for name, tree in self.trees.items():
            known = bound(tree) | BUILTINS
            for node in ast.walk(tree):
                if isinstance(node, ast.Name):
                    self.assertIn(node.id, known, name)
                if isinstance(node, ast.Call) and isinstance(node.func, ast.Attribute):
                    self.assertIn(node.func.attr, METHODS | own, name)

    def test_what_is_not_used(self):
        for name, tree in self.trees.items():
            for node in ast.walk(tree):
                if isinstance(node, UNUSED):
                    self.assertTrue(isinstance(node, ast.Try) and self.catches_own(node), (name, node))
                if isinstance(node, ast.Constant):
                    self.assertNotIsInstance(node.value, (float, complex), name)
                if isinstance(node, ast.FunctionDef):
                    self.assertEqual(node.decorator_list, [], name)

    def test_no_star_in_an_index(self):
        for name, tree in self.trees.items():
            for node in ast.walk(tree):
                if isinstance(node, ast.Subscript):
                    stars = [part for part in ast.walk(node.slice) if isinstance(part, ast.Starred)]
                    self.assertEqual(stars, [], (name, node.lineno))

    def test_no_name_twice(self):
        """Nothing local has the name of a builtin, or of a class or an import of its file."""
        import builtins
        for name, tree in self.trees.items():
            taken = {one.asname or one.name for node in tree.body if isinstance(node, ast.ImportFrom) for one in node.names}
            taken |= {node.name for node in tree.body if isinstance(node, ast.ClassDef)}
            tops = [node for node in tree.body if isinstance(node, (ast.FunctionDef, ast.ClassDef))]
            for top in tops:
                inner = bound(top) - {top.name}
                methods = {node.name for node in ast.walk(top) if isinstance(node, ast.FunctionDef)}
                if isinstance(top, ast.ClassDef):
                    inner -= methods
                self.assertFalse(inner & taken, (name, top.name))
                self.assertFalse({one for one in inner if hasattr(builtins, one)}, (name, top.name))

    def test_words(self):
        """None of the words that L17 bars, no sign that L27 bars, in names and strings."""
        barred = set("""
            register mro elements open input law version_info with_traceback add_note attrgetter breakpoint builtins
            compile copyright credits delattr dir eval exec exit gc getattr globals hasattr help id importlib license
            locals methodcaller os quit setattr super type vars sys
        """.split())
        begins = re.compile("_(wall|pe_|dcw_|enum_|cm_|twin_re_|lay_|law_|stub_|sre|WallAttr|(cold|tuplegetter|outside|record"
                            "|written_out|member_names)[0-9_]*$)")
        inside = re.compile("\\b(type|typing|enum|Enum|Generic|Protocol|ABC|namedtuple|NamedTuple|TypedDict)\\b|%|__")
        for name, tree in self.trees.items():
            self.assertFalse(bound(tree) & barred, name)
            names = bound(tree) - {"__init__", "__eq__", "__str__", "__repr__", "__class__"}
            self.assertFalse([one for one in names if one.startswith("__") or begins.match(one)], name)
            self.assertIsNone(re.search(r"\b_wall\b", self.texts[name]), name)
            docs = {id(node.body[0].value) for node in ast.walk(tree)
                    if isinstance(node, (ast.Module, ast.ClassDef, ast.FunctionDef)) and node.body
                    and isinstance(node.body[0], ast.Expr)}
            for node in ast.walk(tree):
                if isinstance(node, ast.Constant) and isinstance(node.value, str) and id(node) not in docs:
                    self.assertIsNone(inside.search(node.value), (name, node.lineno))
                if isinstance(node, (ast.Attribute, ast.keyword)):
                    self.assertNotIn(node.attr if isinstance(node, ast.Attribute) else node.arg, barred - {"type"}, name)

    def test_calls(self):
        """No keyword to a builtin but key, no sort, no lambda beside another one on its line, `is` as L20 says."""
        for name, tree in self.trees.items():
            lambdas = []
            for node in ast.walk(tree):
                if isinstance(node, ast.Lambda):
                    lambdas.append(node.lineno)
                if isinstance(node, ast.Call) and isinstance(node.func, ast.Name) and node.func.id in BUILTINS:
                    self.assertLessEqual({one.arg for one in node.keywords}, {"key"}, (name, node.lineno))
                if isinstance(node, ast.Call) and isinstance(node.func, ast.Attribute):
                    self.assertEqual(node.keywords, [], (name, node.lineno))
                if isinstance(node, ast.Compare):
                    for sign, other in zip(node.ops, node.comparators):
                        if isinstance(sign, (ast.Is, ast.IsNot)):
                            self.assertTrue(isinstance(other, ast.Constant) and other.value in (None, True, False), name)
                if isinstance(node, ast.BinOp) and isinstance(node.op, ast.Pow):
                    self.assertIsInstance(node.right, ast.Constant, name)
                if isinstance(node, ast.JoinedStr):
                    inner = [part for value in node.values if isinstance(value, ast.FormattedValue)
                             for part in ast.walk(value.value)]
                    self.assertFalse([one for one in inner if isinstance(one, (ast.Constant, ast.JoinedStr))], name)
            self.assertEqual(len(set(lambdas)), len(lambdas), name)

    def test_loops_change_nothing_that_they_go_over(self):
        changing = {"append", "extend", "insert", "pop", "remove", "clear", "update", "setdefault", "reverse"}
        for name, tree in self.trees.items():
            for node in ast.walk(tree):
                if not isinstance(node, ast.For):
                    continue
                over = {ast.unparse(part) for part in ast.walk(node.iter) if isinstance(part, (ast.Name, ast.Attribute))}
                for part in [one for row in node.body for one in ast.walk(row)]:
                    if isinstance(part, ast.Call) and isinstance(part.func, ast.Attribute) and part.func.attr in changing:
                        self.assertNotIn(ast.unparse(part.func.value), over, (name, part.lineno))
                    if isinstance(part, ast.Subscript) and isinstance(part.ctx, (ast.Store, ast.Del)):
                        self.assertNotIn(ast.unparse(part.value), over, (name, part.lineno))

    def test_sets_stay_where_they_are(self):
        """A set stands in len, in sorted, or behind in: there is no other one in the package."""
        for name, tree in self.trees.items():
            for node in ast.walk(tree):
                self.assertNotIsInstance(node, (ast.Set, ast.SetComp), name)
                if isinstance(node, ast.Call) and isinstance(node.func, ast.Attribute):
                    self.assertNotIn(node.func.attr, ("sort", "add", "discard"), name)

    def catches_own(self, node):
        """Whether a try catches nothing but the package's own errors."""
        own = {part.name for tree in self.trees.values() for part in tree.body
               if isinstance(part, ast.ClassDef) and [base.id for base in part.bases] in (["WithinError"], ["ValueError"])}
        return all(isinstance(one.type, ast.Name) and one.type.id in own for one in node.handlers)
