"""Those rules of the language of the package that can be counted or looked up in its syntax."""

import ast
import builtins
import unittest
from pathlib import Path

PACKAGE = Path(__file__).resolve().parent.parent / "unmetcells"

USED_BUILTINS = """len range enumerate zip min max sum abs sorted reversed int str bool bytes list tuple dict set isinstance ord
    repr any all divmod pow iter next property ValueError""".split()

SPECIAL_METHODS = """__init__ __eq__ __repr__ __str__ __len__ __enter__ __exit__ __call__ __iter__ __contains__
    __lt__ __le__ __gt__ __ge__ __ne__ __bool__""".split()

BARRED_WORDS = """typing enum Enum namedtuple dataclass contextmanager overload register mro elements open input law global
    async eval exec compile globals locals vars dir getattr setattr hasattr delattr super""".split()

BARRED_NODES = (ast.GeneratorExp, ast.Yield, ast.YieldFrom, ast.Global, ast.AsyncFunctionDef, ast.Await, ast.Div,
                ast.Set, ast.Starred, ast.With)


def files():
    return sorted(PACKAGE.rglob("*.py"))


def trees():
    return [(path, ast.parse(path.read_text(encoding="utf-8"))) for path in files()]


def bound_names(tree):
    """All names that a file binds: functions, classes, parameters, variables, imports."""
    for node in ast.walk(tree):
        if isinstance(node, (ast.FunctionDef, ast.ClassDef)):
            yield node.name
        elif isinstance(node, ast.arg):
            yield node.arg
        elif isinstance(node, ast.Name) and isinstance(node.ctx, ast.Store):
            yield node.id
        elif isinstance(node, ast.alias):
            yield node.name


def top_names(tree):
    """The names that a file itself defines at its top."""
    names = [node.name for node in tree.body if isinstance(node, (ast.FunctionDef, ast.ClassDef))]
    for node in tree.body:
        if isinstance(node, ast.Assign):
            names += [target.id for target in node.targets]
    return names


class TestFiles(unittest.TestCase):

    def test_nothing_but_plain_files(self):
        for path in PACKAGE.rglob("*"):
            if path.name != "__pycache__" and path.parent.name != "__pycache__":
                self.assertRegex(path.name, "^[a-z_0-9]+[.]py$")
        self.assertTrue((PACKAGE / "__init__.py").is_file())

    def test_signs_and_sizes(self):
        for path in files():
            text = path.read_text(encoding="utf-8")
            self.assertEqual([sign for sign in text if not (" " <= sign <= "~" or sign == "\n")], [], path)
            lines = text.split("\n")
            self.assertLessEqual(len(lines), 399, path)
            self.assertLessEqual(max(len(line) for line in lines), 120, path)

    def test_lines_of_functions(self):
        for path, tree in trees():
            for node in ast.walk(tree):
                if isinstance(node, ast.FunctionDef):
                    self.assertLessEqual(node.end_lineno - node.lineno + 1, 40, f"{path} {node.name}")


class TestSyntax(unittest.TestCase):

    def test_top_of_files(self):
        for path, tree in trees():
            for node in tree.body:
                text = isinstance(node, ast.Expr) and isinstance(node.value, ast.Constant)
                kinds = (ast.ImportFrom, ast.FunctionDef, ast.ClassDef, ast.Assign)
                self.assertTrue(text or isinstance(node, kinds), f"{path} {node.lineno}")

    def test_imports_name_the_file_that_defines(self):
        defined = {path.stem: top_names(tree) for path, tree in trees()}
        for path, tree in trees():
            for node in ast.walk(tree):
                self.assertNotIsInstance(node, ast.Import)
                if isinstance(node, ast.ImportFrom):
                    package, _, name = node.module.partition(".")
                    self.assertEqual((node.level, package), (0, "unmetcells"), path)
                    for alias in node.names:
                        self.assertIn(alias.name, defined[name], path)
                        self.assertIsNone(alias.asname)

    def test_imports_go_in_no_circle(self):
        needs = {}
        for path, tree in trees():
            needs[path.stem] = {node.module.partition(".")[2] for node in tree.body if isinstance(node, ast.ImportFrom)}
        while needs:
            free = [name for name in needs if not needs[name] & set(needs)]
            self.assertNotEqual(free, [], needs)
            for name in free:
                del needs[name]

    def test_imports_are_used(self):
        for path, tree in trees():
            read = {node.id for node in ast.walk(tree) if isinstance(node, ast.Name)}
            for node in tree.body:
                if isinstance(node, ast.ImportFrom):
                    self.assertEqual([alias.name for alias in node.names if alias.name not in read], [], path)

    def test_names(self):
        for path, tree in trees():
            for name in bound_names(tree):
                if name.startswith("__"):
                    self.assertIn(name, SPECIAL_METHODS, path)
                else:
                    self.assertFalse(hasattr(builtins, name), f"{path} {name}")
                    self.assertNotIn(name, BARRED_WORDS, path)

    def test_builtins(self):
        for path, tree in trees():
            for node in ast.walk(tree):
                if isinstance(node, ast.Name) and hasattr(builtins, node.id):
                    self.assertIn(node.id, USED_BUILTINS, f"{path} {node.lineno}")

    def test_locals_do_not_hide_imports_and_classes(self):
        for path, tree in trees():
            hidden = [alias.name for node in tree.body if isinstance(node, ast.ImportFrom) for alias in node.names]
            hidden += [node.name for node in tree.body if isinstance(node, ast.ClassDef)]
            names = list(bound_names(tree))
            self.assertEqual([name for name in hidden if names.count(name) > 1], [], path)

    def test_barred_syntax(self):
        for path, tree in trees():
            for node in ast.walk(tree):
                self.assertNotIsInstance(node, BARRED_NODES, f"{path} {getattr(node, 'lineno', '')}")
                if isinstance(node, ast.Constant):
                    self.assertNotIsInstance(node.value, float, path)
                    self.assertFalse(isinstance(node.value, str) and "%" in node.value, path)
                if isinstance(node, (ast.FunctionDef, ast.ClassDef)):
                    names = [mark.id for mark in node.decorator_list]
                    self.assertIn(names, ([], ["property"]), path)

    def test_only_own_errors_are_caught_and_raised(self):
        own = top_names(ast.parse((PACKAGE / "errors.py").read_text(encoding="utf-8")))
        for path, tree in trees():
            for node in ast.walk(tree):
                if isinstance(node, ast.ExceptHandler):
                    self.assertIn(node.type.id, own, path)
                if isinstance(node, ast.Raise):
                    self.assertIn(node.exc.func.id, own, path)
