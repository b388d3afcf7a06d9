"""Those rules of the language of the package that can be counted or looked up in its syntax."""

import ast
import builtins
import unittest
from pathlib import Path

PACKAGE = Path(__file__).resolve().parent.parent / "unmetcells"

USED_BUILTINS = """len range enumerate zip min max sum abs sorted reversed int str bool bytes list tuple dict set isinstance ord
    repr any all divmod pow iter next property ValueError""".split()

SPECIAL_METHODS = """__init__ __eq__ __repr__ __str__ __len__ __enter__ __exit__ __call__ __iter__ __contains__
    __lt__ __le__ __gt__ __ge__ __ne__ __bool__""".split()

BARRED_WORDS = """typing enum Enum namedtuple dataclass contextmanager overload register mro elements open input law global
    async eval exec compile globals locals vars dir getattr setattr hasattr delattr super""".split()

BARRED_NODES = (ast.GeneratorExp, ast.YieldFrom, ast.Global, ast.Nonlocal, ast.AsyncFunctionDef, ast.Await, ast.Div,
                ast.Set, ast.Starred, ast.With, ast.NamedExpr, ast.Match)

# What may be imported from outside of the package.
LIBRARY = {"math": ("comb",)}

CHANGING_METHODS = ("append", "clear", "extend", "insert", "pop", "remove", "reverse", "setdefault", "update", "add",
                    "discard", "sort")


def files():
    return sorted(PACKAGE.rglob("*.py"))


def trees():
    return [(path, ast.parse(path.read_text(encoding="utf-8"))) for path in files()]


def bound_names(tree):
    """All names that a file binds: functions, classes, parameters, variables, imports."""
    for node in ast.walk(tree):
        if isinstance(node, (ast.FunctionDef, ast.ClassDef)):
            yield node.name
        elif isinstance(node, ast.arg):
            yield node.arg
        elif isinstance(node, ast.Name) and isinstance(node.ctx, ast.Store):
            yield node.id
        elif isinstance(node, ast.alias):
            yield node.name


def top_names(tree):
    """The names that a file itself defines at its top."""
    names = [node.name for node in tree.body if isinstance(node, (ast.FunctionDef, ast.ClassDef))]
    for node in tree.body:
        if isinstance(node, ast.Assign):
            names += [target.id for target in node.targets]
    return names


def functions():
    """All functions and methods of the package, with their files."""
    return [(path, node) for path, tree in trees() for node in ast.walk(tree) if isinstance(node, ast.FunctionDef)]


def one_names(function):
    """A dict from each name of a function to one name that all its other names share, told by plain assignments."""
    shared = {}

    def name_of(name):
        while shared.get(name, name) != name:
            name = shared[name]
        return name

    for node in ast.walk(function):
        if isinstance(node, ast.Assign):
            sources = [node.value]
            if isinstance(node.value, ast.IfExp):
                sources = [node.value.body, node.value.orelse]
            elif isinstance(node.value, ast.BoolOp):
                sources = node.value.values
            for target in node.targets:
                for source in sources:
                    if isinstance(target, ast.Name) and isinstance(source, ast.Name):
                        shared[name_of(target.id)] = name_of(source.id)
    return name_of


def told(node):
    """The text of a name or a field, and of what an item belongs to; None for anything else."""
    while isinstance(node, ast.Subscript):
        node = node.value
    return ast.unparse(node) if isinstance(node, (ast.Name, ast.Attribute)) else None


def walked_things(node):
    """The names and fields that the head of a loop or a comprehension walks."""
    if isinstance(node, ast.Call):
        if isinstance(node.func, ast.Attribute) and node.func.attr in ("items", "keys", "values"):
            return walked_things(node.func.value)
        if isinstance(node.func, ast.Name) and node.func.id in ("enumerate", "zip", "reversed"):
            return [name for thing in node.args for name in walked_things(thing)]
        return []
    return [told(node)] if told(node) else []


def changed_things(nodes):
    """The names and fields whose items or attributes are changed within these nodes."""
    for node in [inner for node in nodes for inner in ast.walk(node)]:
        if isinstance(node, (ast.Subscript, ast.Attribute)) and isinstance(node.ctx, (ast.Store, ast.Del)):
            yield told(node)
        if isinstance(node, ast.Call) and isinstance(node.func, ast.Attribute) and node.func.attr in CHANGING_METHODS:
            yield told(node.func.value)


def changed_while_walked(function):
    """The names and fields of a function that a loop walks and changes, be it by another name for the same thing."""
    name_of = one_names(function)
    found = []
    for node in ast.walk(function):
        if isinstance(node, ast.For):
            heads, rows = [node.iter], node.body
        elif isinstance(node, (ast.ListComp, ast.DictComp, ast.SetComp)):
            heads, rows = [part.iter for part in node.generators], [node]
        else:
            continue
        walked = {name_of(name) for head in heads for name in walked_things(head)}
        found += [name for name in changed_things(rows) if name and name_of(name) in walked]
    return found


OLD_COUNTS = """
def count(leads, counts):
    for _ in range(3):
        longer = {}
        for before in WALKED:
            for after in leads[before]:
                longer[after] = longer.get(after, 0) + counts[before]
        counts = longer
    return counts
"""


class TestWalkedThings(unittest.TestCase):

    def test_nothing_walked_is_changed(self):
        for path, function in functions():
            self.assertEqual(changed_while_walked(function), [], f"{path} {function.name}")

    def test_the_search_sees_it(self):
        for walked, found in (("counts", ["longer"]), ("counts.items()", ["longer"]), ("enumerate(counts)", ["longer"]),
                              ("longer", ["longer"]), ("list(counts)", []), ("leads", [])):
            function = ast.parse(OLD_COUNTS.replace("WALKED", walked)).body[0]
            self.assertEqual(changed_while_walked(function), found, walked)


class TestGeneratorsAndSets(unittest.TestCase):

    def test_yields_are_statements_of_their_own(self):
        for path, function in functions():
            inner = list(ast.walk(function))
            yields = [node for node in inner if isinstance(node, ast.Yield)]
            alone = [node.value for node in inner if isinstance(node, ast.Expr)]
            self.assertTrue(all(node in alone for node in yields), f"{path} {function.name}")
            if yields:
                self.assertFalse(any(isinstance(node, ast.Try) for node in inner), f"{path} {function.name}")
                self.assertFalse(any(isinstance(node, ast.Return) and node.value for node in inner), function.name)

    def test_generators_are_iterated_at_once(self):
        names = [function.name for _, function in functions()
                 if any(isinstance(node, ast.Yield) for node in ast.walk(function))]
        self.assertEqual(len(names), len(set(names)))
        for path, tree in trees():
            at_once = []
            for node in ast.walk(tree):
                if isinstance(node, (ast.For, ast.comprehension)):
                    at_once.append(node.iter)
                elif isinstance(node, ast.Call) and isinstance(node.func, ast.Name) and node.func.id in ("list", "tuple"):
                    at_once += node.args
            for node in ast.walk(tree):
                if isinstance(node, ast.Call) and isinstance(node.func, ast.Name) and node.func.id in names:
                    self.assertIn(node, at_once, f"{path} {node.lineno}")

    def test_set_comprehensions_are_sorted_or_counted_at_once(self):
        for path, tree in trees():
            at_once = []
            for node in ast.walk(tree):
                if isinstance(node, ast.Call) and isinstance(node.func, ast.Name) and not node.keywords:
                    at_once += node.args if node.func.id in ("sorted", "len") else []
            for node in ast.walk(tree):
                if isinstance(node, ast.SetComp):
                    self.assertIn(node, at_once, f"{path} {node.lineno}")


class TestFiles(unittest.TestCase):

    def test_nothing_but_plain_files(self):
        for path in PACKAGE.rglob("*"):
            if path.name != "__pycache__" and path.parent.name != "__pycache__":
                self.assertRegex(path.name, "^[a-z_0-9]+[.]py$")
        self.assertTrue((PACKAGE / "__init__.py").is_file())

    def test_signs_and_sizes(self):
        for path in files():
            text = path.read_text(encoding="utf-8")
            self.assertEqual([sign for sign in text if not (" " <= sign <= "~" or sign == "\n")], [], path)
            lines = text.split("\n")
            self.assertLessEqual(len(lines), 399, path)
            self.assertLessEqual(max(len(line) for line in lines), 120, path)

    def test_lines_of_functions(self):
        for path, tree in trees():
            for node in ast.walk(tree):
                if isinstance(node, ast.FunctionDef):
                    self.assertLessEqual(node.end_lineno - node.lineno + 1, 40, f"{path} {node.name}")


class TestSyntax(unittest.TestCase):

    def test_top_of_files(self):
        for path, tree in trees():
            for node in tree.body:
                text = isinstance(node, ast.Expr) and isinstance(node.value, ast.Constant)
                kinds = (ast.ImportFrom, ast.FunctionDef, ast.ClassDef, ast.Assign)
                self.assertTrue(text or isinstance(node, kinds), f"{path} {node.lineno}")

    def test_imports_name_the_file_that_defines(self):
        defined = {path.stem: top_names(tree) for path, tree in trees()}
        for path, tree in trees():
            for node in ast.walk(tree):
                self.assertNotIsInstance(node, ast.Import)
                if isinstance(node, ast.ImportFrom):
                    package, _, name = node.module.partition(".")
                    self.assertEqual(node.level, 0, path)
                    if package != "unmetcells":
                        self.assertIn(package, LIBRARY, path)
                    for alias in node.names:
                        self.assertIn(alias.name, LIBRARY.get(package) or defined[name], path)
                        self.assertIsNone(alias.asname)

    def test_imports_go_in_no_circle(self):
        needs = {}
        for path, tree in trees():
            needs[path.stem] = {node.module.partition(".")[2] for node in tree.body if isinstance(node, ast.ImportFrom)}
        while needs:
            free = [name for name in needs if not needs[name] & set(needs)]
            self.assertNotEqual(free, [], needs)
            for name in free:
                del needs[name]

    def test_imports_are_used(self):
        for path, tree in trees():
            read = {node.id for node in ast.walk(tree) if isinstance(node, ast.Name)}
            for node in tree.body:
                if isinstance(node, ast.ImportFrom):
                    self.assertEqual([alias.name for alias in node.names if alias.name not in read], [], path)

    def test_names(self):
        for path, tree in trees():
            for name in bound_names(tree):
                if name.startswith("__"):
                    self.assertIn(name, SPECIAL_METHODS, path)
                else:
                    self.assertFalse(hasattr(builtins, name), f"{path} {name}")
                    self.assertNotIn(name, BARRED_WORDS, path)

    def test_builtins(self):
        for path, tree in trees():
            for node in ast.walk(tree):
                if isinstance(node, ast.Name) and hasattr(builtins, node.id):
                    self.assertIn(node.id, USED_BUILTINS, f"{path} {node.lineno}")

    def test_locals_do_not_hide_imports_and_classes(self):
        for path, tree in trees():
            hidden = [alias.name for node in tree.body if isinstance(node, ast.ImportFrom) for alias in node.names]
            hidden += [node.name for node in tree.body if isinstance(node, ast.ClassDef)]
            names = list(bound_names(tree))
            self.assertEqual([name for name in hidden if names.count(name) > 1], [], path)

    def test_barred_syntax(self):
        for path, tree in trees():
            for node in ast.walk(tree):
                self.assertNotIsInstance(node, BARRED_NODES, f"{path} {getattr(node, 'lineno', '')}")
                if isinstance(node, ast.Constant):
                    self.assertNotIsInstance(node.value, float, path)
                    self.assertFalse(isinstance(node.value, str) and "%" in node.value, path)
                if isinstance(node, (ast.FunctionDef, ast.ClassDef)):
                    names = [mark.id for mark in node.decorator_list]
                    self.assertIn(names, ([], ["property"]), path)

    def test_only_own_errors_are_caught_and_raised(self):
        own = top_names(ast.parse((PACKAGE / "errors.py").read_text(encoding="utf-8")))
        for path, tree in trees():
            for node in ast.walk(tree):
                if isinstance(node, ast.ExceptHandler):
                    caught = node.type.elts if isinstance(node.type, ast.Tuple) else [node.type]
                    self.assertEqual([error.id for error in caught if error.id not in own], [], path)
                if isinstance(node, ast.Raise):
                    self.assertIn(node.exc.func.id, own, path)
