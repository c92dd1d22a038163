"""The rules of the language that are told by looking at each file alone."""

import ast
import pathlib
import re
import unittest

PACKAGE = pathlib.Path(__file__).resolve().parent.parent / "twigscripts"
FILES = sorted(path for path in PACKAGE.rglob("*") if path.is_file() and path.parent.name != "__pycache__")
STANDARD = {"heapq", "math", "itertools", "collections"}
AT_THE_TOP = (ast.ImportFrom, ast.FunctionDef, ast.ClassDef, ast.Assign)
BARRED_STATEMENTS = (ast.Global, ast.AsyncFunctionDef, ast.AsyncFor, ast.AsyncWith, ast.Import)
BARRED_NAMES = {
    "register", "mro", "elements", "open", "input", "law", "version_info", "with_traceback", "add_note", "eval", "exec",
    "compile", "dir", "exit", "globals", "locals", "vars", "hash", "id", "map", "filter", "round", "print", "object",
    "type", "enum", "typing", "dataclass", "namedtuple", "overload", "contextmanager", "bytearray", "memoryview",
}


def statements(tree):
    """What stands at module level, without the docstring."""
    return tree.body[1:] if ast.get_docstring(tree) is not None else tree.body


def names_in(tree):
    """All names of variables, functions, classes, parameters and attributes."""
    for node in ast.walk(tree):
        for field in ("id", "name", "arg", "attr"):
            found = getattr(node, field, None)
            if isinstance(found, str):
                yield found


def is_plainly_text(node):
    """Whether an expression is a string, an f-string, str(..), repr(..) or the join of a literal."""
    if isinstance(node, ast.Call) and isinstance(node.func, ast.Name):
        return node.func.id in ("str", "repr")
    if isinstance(node, ast.Call) and isinstance(node.func, ast.Attribute) and node.func.attr == "join":
        return isinstance(node.func.value, ast.Constant)
    return isinstance(node, ast.JoinedStr) or isinstance(node, ast.Constant) and isinstance(node.value, str)


def is_plainly_number(node):
    """Whether an expression is len(..) or a literal number."""
    if isinstance(node, ast.Call):
        return isinstance(node.func, ast.Name) and node.func.id == "len"
    return isinstance(node, ast.Constant) and type(node.value) is int


PLAIN_RETURNS = {"__str__": is_plainly_text, "__repr__": is_plainly_text, "__len__": is_plainly_number}


def parsed():
    """Each file of the package: its path, its text and its tree."""
    for path in FILES:
        text = path.read_text(encoding="utf-8")
        yield path.name, text, ast.parse(text)


class Language(unittest.TestCase):

    def test_files(self):
        self.assertIn(PACKAGE / "__init__.py", FILES)
        for path in FILES:
            self.assertRegex(path.name, r"^[a-z0-9_]+\.py$")

    def test_sizes_and_characters(self):
        for file, text, tree in parsed():
            lines = text.splitlines()
            self.assertLessEqual(len(lines), 399, file)
            self.assertLessEqual(max(len(line) for line in lines), 120, file)
            self.assertIsNotNone(re.fullmatch(r"[ -~\n]*", text), file)
            for node in ast.walk(tree):
                if isinstance(node, ast.FunctionDef):
                    self.assertLessEqual(node.end_lineno - node.lineno + 1, 40, (file, node.name))

    def test_module_level(self):
        for file, _, tree in parsed():
            bound = []
            for node in statements(tree):
                self.assertIsInstance(node, AT_THE_TOP, file)
                if isinstance(node, ast.Assign):
                    self.assertEqual(len(node.targets), 1, file)
                    bound.append(node.targets[0].id)
                elif isinstance(node, ast.ImportFrom):
                    bound.extend(alias.name for alias in node.names)
                else:
                    bound.append(node.name)
            self.assertEqual(len(bound), len(set(bound)), file)

    def test_imports(self):
        for file, _, tree in parsed():
            for node in ast.walk(tree):
                if isinstance(node, ast.ImportFrom):
                    self.assertIn(node, tree.body, file)
                    self.assertEqual(node.level, 0, file)
                    self.assertTrue(node.module in STANDARD or re.match(r"twigscripts\.[a-z_]+$", node.module), file)
                    self.assertEqual([alias.asname for alias in node.names], [None] * len(node.names), file)

    def test_names_and_statements(self):
        for file, _, tree in parsed():
            for name in names_in(tree):
                self.assertNotIn(name, BARRED_NAMES, file)
                self.assertFalse(name.startswith("_wall"), (file, name))
            for node in ast.walk(tree):
                self.assertNotIsInstance(node, BARRED_STATEMENTS + (ast.Div,), file)
                if isinstance(node, ast.Constant):
                    self.assertNotIsInstance(node.value, (float, complex), file)
                    self.assertFalse(isinstance(node.value, str) and "%" in node.value, file)

    def test_what_operators_forbid_in_the_whole_package(self):
        # Operators and properties may change nothing that they did not create: without these it is plain.
        for file, text, tree in parsed():
            for word in ("(type)", "Meta", "metaclass=", ".sort(", "isinstance(type"):
                self.assertNotIn(word, text, file)
            for node in ast.walk(tree):
                self.assertNotIsInstance(node, (ast.AugAssign, ast.GeneratorExp, ast.Yield, ast.YieldFrom), file)
                self.assertFalse(isinstance(node, ast.Attribute) and node.attr in ("keys", "sort", "__class__"), file)

    def test_what_texts_and_lengths_return(self):
        found = []
        for file, _, tree in parsed():
            for method in ast.walk(tree):
                if not isinstance(method, ast.FunctionDef) or method.name not in PLAIN_RETURNS:
                    continue
                self.assertIsInstance(method.body[-1], ast.Return, (file, method.name))
                for node in ast.walk(method):
                    if isinstance(node, ast.Return):
                        self.assertTrue(PLAIN_RETURNS[method.name](node.value), (file, node.lineno))
                found.append((file, method.name))
        self.assertIn(("scripts.py", "__str__"), found)
        self.assertIn(("gardens.py", "__len__"), found)

    def test_which_returns_are_plain(self):
        for text in ("'a'", "f'{a} b'", "str(a)", "repr(a.b)", "''.join(a)", "'; '.join([a])"):
            self.assertTrue(is_plainly_text(ast.parse(text, mode="eval").body), text)
        for text in ("a", "text(a)", "a.text()", "'a' + b", "a.join(b)", "f'{a}'.join(b)", "1", "None", "a if b else 'c'", "'a'.lower()"):
            self.assertFalse(is_plainly_text(ast.parse(text, mode="eval").body), text)
        for text in ("len(a)", "0", "12"):
            self.assertTrue(is_plainly_number(ast.parse(text, mode="eval").body), text)
        for text in ("a", "len(a) + 1", "a.len()", "many(a)", "True", "-1"):
            self.assertFalse(is_plainly_number(ast.parse(text, mode="eval").body), text)

    def test_finally_only_assigns_and_asks_for_none(self):
        for file, _, tree in parsed():
            for node in [node for node in ast.walk(tree) if isinstance(node, ast.Try)]:
                for inner in [inner for part in node.finalbody for inner in ast.walk(part)]:
                    self.assertNotIsInstance(inner, (ast.Call, ast.BinOp, ast.Return, ast.Raise, ast.Subscript), file)
                    if isinstance(inner, ast.Compare):
                        self.assertIsInstance(inner.ops[0], (ast.Is, ast.IsNot), file)
