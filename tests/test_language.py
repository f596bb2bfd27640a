"""Rules of the language subset that the files themselves can show."""

import ast
import builtins
import re
import unittest
from pathlib import Path

PACKAGE = Path(__file__).resolve().parent.parent / "onesheetmore"
FILES = sorted(PACKAGE.rglob("*.py"))
LIBRARY = {"math": {"gcd"}}
BUILTINS = {
    "len", "range", "enumerate", "zip", "min", "max", "sum", "abs", "sorted", "reversed", "int", "str", "bool", "list",
    "tuple", "dict", "set", "isinstance", "repr", "any", "all", "divmod", "ValueError"}
METHODS = {"append", "extend", "get", "join", "partition", "pop", "split"}
DUNDERS = {"__init__", "__eq__", "__len__", "__add__", "__sub__", "__contains__"}
STATEMENTS = (
    ast.Assign, ast.If, ast.While, ast.For, ast.Return, ast.Break, ast.Continue, ast.Pass, ast.Raise, ast.Expr,
    ast.FunctionDef, ast.ClassDef, ast.ImportFrom, ast.Try)
BARRED_EXPRESSIONS = (
    ast.GeneratorExp, ast.Lambda, ast.NamedExpr, ast.Await, ast.Div, ast.Pow, ast.MatMult)
BARRED_NAMES = {
    "register", "mro", "elements", "open", "input", "law", "version_info", "with_traceback", "add_note", "attrgetter",
    "builtins", "gc", "importlib", "methodcaller", "os", "sys", "_cold", "_outside", "_record"}
BARRED_WORDS = {
    "type", "typing", "typing_extensions", "enum", "Enum", "IntEnum", "StrEnum", "Flag", "IntFlag", "Generic", "Protocol",
    "ABC", "ABCMeta", "namedtuple", "NamedTuple", "TypedDict", "TYPE_CHECKING", "abstractmethod"}


def docstrings_of(tree):
    """The nodes of the docstrings of the file, its classes and functions."""
    for node in ast.walk(tree):
        if isinstance(node, (ast.Module, ast.ClassDef, ast.FunctionDef)) and ast.get_docstring(node) is not None:
            yield node.body[0].value


def trees():
    for path in FILES:
        text = path.read_text(encoding="utf-8")
        yield path, text, ast.parse(text)


def bound_names(tree):
    """Names that parameters, assignments, loops, functions and classes bind."""
    for node in ast.walk(tree):
        if isinstance(node, ast.arg):
            yield node.arg
        elif isinstance(node, ast.Name) and not isinstance(node.ctx, ast.Load):
            yield node.id
        elif isinstance(node, ast.ClassDef):
            yield node.name


def imports_of(tree):
    return [node for node in tree.body if isinstance(node, ast.ImportFrom)]


class LanguageTest(unittest.TestCase):
    def test_files(self):
        self.assertIn(PACKAGE / "__init__.py", FILES)
        self.assertLessEqual(len(FILES), 100)
        for path in PACKAGE.rglob("*"):
            if path.name != "__pycache__" and path.parent.name != "__pycache__":
                self.assertTrue(path.suffix == ".py" and path.parent == PACKAGE, path)

    def test_sizes_and_characters(self):
        for path, text, tree in trees():
            lines = text.split("\n")
            self.assertLessEqual(len(lines), 399, path)
            self.assertLessEqual(max([len(line) for line in lines]), 120, path)
            self.assertTrue(all([char == "\n" or " " <= char <= "~" for char in text]), path)
            for node in ast.walk(tree):
                if isinstance(node, ast.FunctionDef):
                    self.assertLessEqual(node.end_lineno - node.lineno + 1, 40, (path, node.name))

    def test_imports(self):
        graph = {}
        for path, _, tree in trees():
            graph[path.stem] = set()
            nodes = [node for node in ast.walk(tree) if isinstance(node, (ast.Import, ast.ImportFrom))]
            self.assertEqual(nodes, imports_of(tree), path)
            for node in nodes:
                self.assertTrue(all([alias.asname is None for alias in node.names]) and node.level == 0, path)
                names = {alias.name for alias in node.names}
                if node.module in LIBRARY:
                    self.assertLessEqual(names, LIBRARY[node.module], path)
                    continue
                package, _, source = node.module.partition(".")
                self.assertEqual(package, "onesheetmore", path)
                graph[path.stem].add(source)
                body = ast.parse((PACKAGE / (source + ".py")).read_text(encoding="utf-8")).body
                defined = {one.name for one in body if hasattr(one, "name")}
                defined |= {one.targets[0].id for one in body if isinstance(one, ast.Assign)}
                self.assertLessEqual(names, defined, path)
                used = {one.id for one in ast.walk(tree) if isinstance(one, ast.Name)}
                self.assertLessEqual(names, used, path)
        while graph:
            free = [name for name in graph if not graph[name] & set(graph)]
            self.assertTrue(free, "files import from each other: " + ", ".join(sorted(graph)))
            for name in free:
                del graph[name]

    def test_statements_and_expressions(self):
        for path, _, tree in trees():
            for node in ast.walk(tree):
                if isinstance(node, ast.stmt):
                    self.assertIsInstance(node, STATEMENTS, (path, node.lineno))
                self.assertNotIsInstance(node, BARRED_EXPRESSIONS, (path, getattr(node, "lineno", 0)))
                if isinstance(node, ast.Constant):
                    self.assertNotIsInstance(node.value, (float, bytes))
                    self.assertNotIn("%", str(node.value))
                if isinstance(node, (ast.FunctionDef, ast.ClassDef)):
                    self.assertEqual(node.decorator_list, [])
                    self.assertTrue(node.name in DUNDERS or ast.get_docstring(node), (path, node.name))
            for node in tree.body:
                self.assertIsInstance(node, (ast.Expr, ast.ImportFrom, ast.FunctionDef, ast.ClassDef, ast.Assign), path)

    def test_own_errors_alone_are_caught(self):
        for path, _, tree in trees():
            own = {alias.name for node in imports_of(tree) if node.module == "onesheetmore.errors" for alias in node.names}
            for node in ast.walk(tree):
                if isinstance(node, ast.Try):
                    self.assertEqual(node.finalbody, [], path)
                    for handler in node.handlers:
                        self.assertTrue(isinstance(handler.type, ast.Name) and handler.type.id in own, path)
                if isinstance(node, ast.Raise) and node.exc is not None:
                    self.assertTrue(isinstance(node.exc, ast.Call) and node.exc.func.id in own, path)

    def test_no_name_is_a_method_and_an_attribute(self):
        for path, _, tree in trees():
            for owner in [node for node in tree.body if isinstance(node, ast.ClassDef)]:
                methods = {node.name for node in owner.body if isinstance(node, ast.FunctionDef)}
                attributes = {node.attr for node in ast.walk(owner) if isinstance(node, ast.Attribute)
                              and isinstance(node.ctx, ast.Store)}
                self.assertFalse(methods & attributes, path)

    def test_is_stands_beside_none(self):
        for path, _, tree in trees():
            for node in ast.walk(tree):
                if isinstance(node, ast.Compare) and isinstance(node.ops[0], (ast.Is, ast.IsNot)):
                    right = node.comparators[0]
                    self.assertTrue(isinstance(right, ast.Constant) and right.value is None, (path, node.lineno))

    def test_names(self):
        for path, _, tree in trees():
            imported = {alias.name for node in imports_of(tree) for alias in node.names}
            bound = list(bound_names(tree))
            self.assertFalse(set(bound) & (imported | set(dir(builtins))), path)
            functions = [node.name for node in tree.body if isinstance(node, (ast.FunctionDef, ast.ClassDef))]
            self.assertEqual(len(functions), len(set(functions)), path)
            self.assertFalse((set(functions) & (imported | set(dir(builtins)))), path)
            self.assertFalse(set(functions) & {name for name in bound if name not in functions}, path)
            used = {node.attr for node in ast.walk(tree) if isinstance(node, ast.Attribute)}
            used |= {node.arg for node in ast.walk(tree) if isinstance(node, ast.keyword)}
            used |= {node.id for node in ast.walk(tree) if isinstance(node, ast.Name)}
            used |= {node.name for node in ast.walk(tree) if isinstance(node, ast.FunctionDef)}
            self.assertFalse((used | set(bound)) & (BARRED_NAMES | BARRED_WORDS), path)
            docstrings = list(docstrings_of(tree))
            for node in ast.walk(tree):
                if isinstance(node, ast.Constant) and isinstance(node.value, str) and node not in docstrings:
                    self.assertFalse(set(re.findall("[A-Za-z_]+", node.value)) & (BARRED_WORDS - {"type"}), path)
            for name in set(bound + functions):
                self.assertRegex(name, "^(_|_?[A-Za-z][A-Za-z0-9_]*)$")
                self.assertNotRegex(name, "^_(wall|pe_|dcw_|enum_|cm_|twin_re_|lay_|law_|stub_|sre)")

    def test_calls(self):
        own_methods = {node.name for _, _, tree in trees() for owner in tree.body if isinstance(owner, ast.ClassDef)
                       for node in owner.body if isinstance(node, ast.FunctionDef)}
        for path, _, tree in trees():
            known = {alias.name for node in imports_of(tree) for alias in node.names}
            known |= {node.name for node in tree.body if isinstance(node, (ast.FunctionDef, ast.ClassDef))}
            for node in ast.walk(tree):
                if isinstance(node, ast.Call) and isinstance(node.func, ast.Name):
                    self.assertIn(node.func.id, known | BUILTINS, (path, node.lineno))
                if isinstance(node, ast.Call) and isinstance(node.func, ast.Attribute):
                    self.assertIn(node.func.attr, METHODS | own_methods, (path, node.lineno))
                if isinstance(node, ast.FunctionDef) and node.name.startswith("__"):
                    self.assertIn(node.name, DUNDERS, path)

    def test_comprehensions_have_names_of_their_own(self):
        for path, _, tree in trees():
            for function in [node for node in ast.walk(tree) if isinstance(node, ast.FunctionDef)]:
                targets = [name for part in ast.walk(function) if isinstance(part, ast.comprehension)
                           for name in ast.walk(part.target) if isinstance(name, ast.Name) and name.id != "_"]
                others = {node.id for node in ast.walk(function) if isinstance(node, ast.Name)
                          and isinstance(node.ctx, ast.Store) and node not in targets}
                others |= {node.arg for node in ast.walk(function) if isinstance(node, ast.arg)}
                self.assertFalse({name.id for name in targets} & others, (path, function.name))

    def test_sets_are_sorted_at_once(self):
        for path, _, tree in trees():
            inside = {id(node.args[0]) for node in ast.walk(tree) if isinstance(node, ast.Call) and node.args
                      and isinstance(node.func, ast.Name) and node.func.id in ("sorted", "len")}
            for node in ast.walk(tree):
                is_set = isinstance(node, (ast.Set, ast.SetComp)) or (
                    isinstance(node, ast.Call) and isinstance(node.func, ast.Name) and node.func.id == "set")
                self.assertFalse(is_set and id(node) not in inside, (path, getattr(node, "lineno", 0)))


if __name__ == "__main__":
    unittest.main()
