"""Rules of ../shared/LANGUAGE.md that can be seen in the code: L1, L2, L4, L6, L7, L8, L10, L14 to L17, L27."""

import ast
import builtins
import os
import re
import unittest

FOLDER = os.path.join(os.path.dirname(os.path.dirname(os.path.abspath(__file__))), "lowturns")
ALLOWED = """len range enumerate zip min max sum abs sorted reversed int str bool list tuple dict set frozenset
    isinstance ord repr any all divmod iter next map Exception ValueError TypeError KeyError IndexError LookupError
    ZeroDivisionError ArithmeticError OverflowError RuntimeError NotImplementedError AttributeError StopIteration
    NotImplemented super property staticmethod classmethod""".split()
LIBRARY = {"heapq": ["heappush", "heappop", "heapify", "heapreplace", "heappushpop"],
           "math": ["gcd", "lcm", "isqrt", "comb", "perm", "factorial"],
           "itertools": ["product", "combinations", "permutations"]}
BARRED = """register mro elements open input law version_info with_traceback add_note attrgetter breakpoint compile
    copyright credits delattr dir eval exec exit gc getattr globals hasattr help id importlib license locals
    methodcaller os quit setattr type vars sys typing enum Enum Flag Generic Protocol ABC namedtuple dataclass""".split()
# Examples that run in the same process leave their last value as the builtin _.
BUILTINS = [word for word in dir(builtins) if word != "_"]
NO_NODES = (ast.Global, ast.AsyncFunctionDef, ast.Await, ast.Import, ast.Div, ast.MatMult, ast.AsyncFor, ast.AsyncWith)


def files():
    """The names of the files of the package with their texts."""
    found = {}
    for name in sorted(os.listdir(FOLDER)):
        if name != "__pycache__":
            with open(os.path.join(FOLDER, name), encoding="utf-8", newline="") as file:
                found[name] = file.read()
    return found


def trees():
    """The names of the files with their syntax trees."""
    return {name: ast.parse(text) for name, text in files().items()}


def named(tree):
    """All names that a file gives to something, attributes and methods left out."""
    methods = [part for node in ast.walk(tree) if isinstance(node, ast.ClassDef) for part in node.body]
    found = []
    for node in ast.walk(tree):
        if isinstance(node, (ast.FunctionDef, ast.ClassDef)) and node not in methods:
            found.append(node.name)
        elif isinstance(node, ast.arg):
            found.append(node.arg)
        elif isinstance(node, ast.Name) and isinstance(node.ctx, ast.Store):
            found.append(node.id)
        elif isinstance(node, ast.alias):
            found.append(node.asname or node.name)
        elif isinstance(node, ast.ExceptHandler) and node.name:
            found.append(node.name)
    return found


class Language(unittest.TestCase):
    def test_files(self):
        self.assertIn("__init__.py", files())
        for name, text in files().items():
            self.assertRegex(name, r"\A[a-z][a-z0-9_]*\.py\Z|\A__(init|main)__\.py\Z")
            self.assertLessEqual(text.count("\n"), 399, name)
            self.assertTrue(text.endswith("\n") or not text, name)
            for at, line in enumerate(text.split("\n")):
                self.assertLessEqual(len(line), 120, (name, at + 1))
                self.assertRegex(line, r"\A[ -~]*\Z", (name, at + 1))

    def test_functions_are_short(self):
        for name, tree in trees().items():
            for node in ast.walk(tree):
                if isinstance(node, ast.FunctionDef):
                    self.assertLessEqual(node.end_lineno - node.lineno + 1, 40, (name, node.name))

    def test_imports_name_the_file_that_defines(self):
        known = trees()
        for name, tree in known.items():
            for node in ast.walk(tree):
                if isinstance(node, ast.ImportFrom):
                    words = [alias.name for alias in node.names]
                    self.assertEqual(node.level, 0)
                    if node.module in LIBRARY:
                        self.assertLessEqual(set(words), set(LIBRARY[node.module]))
                    elif node.module != "__future__":
                        package, file = node.module.split(".")
                        self.assertEqual(package, "lowturns")
                        defined = set()
                        for part in known[file + ".py"].body:
                            if isinstance(part, (ast.FunctionDef, ast.ClassDef)):
                                defined.add(part.name)
                            elif isinstance(part, ast.Assign):
                                defined.add(part.targets[0].id)
                        self.assertLessEqual(set(words), defined, (name, node.lineno))

    def test_every_import_is_used(self):
        for name, tree in trees().items():
            used = [node.id for node in ast.walk(tree) if isinstance(node, ast.Name)]
            for node in ast.walk(tree):
                for alias in node.names if isinstance(node, ast.ImportFrom) else []:
                    self.assertIn(alias.name, used, name)

    def test_names(self):
        for name, tree in trees().items():
            for word in named(tree):
                self.assertNotIn(word, BUILTINS, name)
                self.assertNotIn(word, BARRED, name)
                self.assertFalse(word.startswith("__"), (name, word))

    def test_builtins(self):
        for name, tree in trees().items():
            for node in ast.walk(tree):
                if isinstance(node, ast.Name) and node.id in BUILTINS:
                    self.assertIn(node.id, ALLOWED, (name, node.lineno))

    def test_no_name_is_bound_twice(self):
        for name, tree in trees().items():
            bound = []
            for node in tree.body:
                if isinstance(node, (ast.FunctionDef, ast.ClassDef)):
                    bound.append(node.name)
                elif isinstance(node, ast.Assign):
                    bound += [target.id for target in node.targets]
                elif isinstance(node, ast.ImportFrom):
                    bound += [alias.name for alias in node.names]
                else:
                    self.assertIsInstance(node, ast.Expr, (name, node.lineno))
                    self.assertIsInstance(node.value.value, str)
            self.assertEqual(len(bound), len(set(bound)), name)
            imports = [alias.name for node in tree.body if isinstance(node, ast.ImportFrom) for alias in node.names]
            classes = [node.name for node in tree.body if isinstance(node, ast.ClassDef)]
            for word in imports + classes:
                self.assertEqual(named(tree).count(word), 1, (name, word))

    def test_no_statement_or_value_outside_the_rules(self):
        for name, tree in trees().items():
            for node in ast.walk(tree):
                self.assertNotIsInstance(node, NO_NODES, name)
                if isinstance(node, ast.Constant):
                    self.assertNotIsInstance(node.value, (float, complex), (name, node.lineno))
                    if isinstance(node.value, str):
                        self.assertNotIn("%", node.value, (name, node.lineno))
                if isinstance(node, ast.BinOp) and isinstance(node.op, ast.Pow):
                    self.assertIsInstance(node.right, ast.Constant, (name, node.lineno))
                if isinstance(node, ast.ExceptHandler):
                    self.assertIsNotNone(node.type, (name, node.lineno))

    def test_words_that_stand_nowhere(self):
        for name, text in files().items():
            code = "\n".join(line.split("#")[0] for line in text.split("\n"))
            for word in ("_wall", "_WallAttr", "metaclass=", "namedtuple", "dataclass", "contextmanager", "overload"):
                self.assertIsNone(re.search(rf"\b{word}", code), (name, word))
