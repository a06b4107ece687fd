"""Checks those rules of ../shared/LANGUAGE.md that a look at the code can decide simply."""

import ast
import builtins
import re
import unittest
from pathlib import Path

FOLDER = Path(__file__).resolve().parent.parent / "shutroads"
PARSED = [(path, path.read_text(encoding="utf-8")) for path in sorted(FOLDER.rglob("*.py"))]

BUILTINS = set((
    "len range enumerate zip min max sum abs sorted reversed int str bool bytes list tuple dict set isinstance ord repr "
    "any all divmod pow iter next map super property staticmethod classmethod object Exception ValueError TypeError "
    "KeyError IndexError LookupError ZeroDivisionError ArithmeticError OverflowError RuntimeError NotImplementedError "
    "AttributeError StopIteration NotImplemented getattr hasattr setattr"
).split())
LIBRARY = {
    "heapq": {"heappush", "heappop", "heapify", "heapreplace", "heappushpop"},
    "math": {"gcd", "lcm", "isqrt", "comb", "perm", "factorial"},
    "itertools": {"chain", "accumulate", "pairwise", "islice", "zip_longest"},
    "collections": {"defaultdict"},
}
NO_NAMES = {"register", "mro", "elements", "open", "input", "law", "version_info", "with_traceback", "add_note"}
NO_WORDS = (
    "typing|typing_extensions|enum|Enum|IntEnum|StrEnum|Flag|IntFlag|Generic|Protocol|ABC|ABCMeta|namedtuple|NamedTuple"
    "|TypedDict|TYPE_CHECKING|abstractmethod|type"
)
NO_NODES = (
    ast.GeneratorExp, ast.Global, ast.AsyncFunctionDef, ast.AsyncFor, ast.AsyncWith, ast.Await, ast.Yield, ast.YieldFrom,
    ast.Div, ast.MatMult,
)


def words_without_docstrings(tree):
    for node in ast.walk(tree):
        if isinstance(node, (ast.Module, ast.ClassDef, ast.FunctionDef)) and ast.get_docstring(node) is not None:
            node.body[0].value.value = ""
    return ast.unparse(tree)


class Language(unittest.TestCase):
    def each_node(self):
        for path, text in PARSED:
            for node in ast.walk(ast.parse(text)):
                yield f"{path.name}, line {getattr(node, 'lineno', 0)}", node

    def test_the_folder_holds_only_plain_files(self):
        self.assertIn(FOLDER / "__init__.py", [path for path, _ in PARSED])
        for path in FOLDER.rglob("*"):
            if "__pycache__" not in path.parts:
                self.assertRegex(path.name, r"\A([a-z][a-z0-9_]*|__init__)\.py\Z")

    def test_lines_and_characters(self):
        for path, text in PARSED:
            self.assertLessEqual(len(text.splitlines()), 399, path.name)
            self.assertTrue(set(text) <= set(map(chr, range(32, 127))) | {"\n"}, path.name)
            self.assertLessEqual(max(map(len, text.splitlines())), 120, path.name)

    def test_functions_are_small_and_told_in_a_docstring(self):
        for where, node in self.each_node():
            if isinstance(node, ast.FunctionDef):
                self.assertLessEqual(node.end_lineno - node.lineno + 1, 40, where)
                if not node.name.startswith("__"):
                    self.assertIsNotNone(ast.get_docstring(node), where)

    def test_imports(self):
        files = {f"shutroads.{path.stem}" for path, _ in PARSED}
        for where, node in self.each_node():
            self.assertNotIsInstance(node, ast.Import, where)
            if isinstance(node, ast.ImportFrom):
                self.assertEqual(node.level, 0, where)
                names = {alias.name for alias in node.names}
                self.assertTrue(node.module in files or names <= LIBRARY.get(node.module, set()), where)

    def test_imported_names_are_defined_in_the_file_that_is_named(self):
        defined = {}
        for path, text in PARSED:
            body = ast.parse(text).body
            names = {node.name for node in body if isinstance(node, (ast.FunctionDef, ast.ClassDef))}
            names |= {node.targets[0].id for node in body if isinstance(node, ast.Assign)}
            defined[f"shutroads.{path.stem}"] = names
        for where, node in self.each_node():
            if isinstance(node, ast.ImportFrom) and node.module in defined:
                self.assertLessEqual({alias.name for alias in node.names}, defined[node.module], where)

    def test_no_two_files_import_from_each_other(self):
        below = {}
        for path, text in PARSED:
            nodes = [node for node in ast.parse(text).body if isinstance(node, ast.ImportFrom)]
            below[f"shutroads.{path.stem}"] = {node.module for node in nodes if node.module.startswith("shutroads.")}
        while below:
            lowest = [name for name in below if not below[name] & set(below)]
            self.assertTrue(lowest, below)
            for name in lowest:
                del below[name]

    def test_names_are_bound_once_and_imports_are_not_hidden(self):
        for path, text in PARSED:
            bound = []
            tree = ast.parse(text)
            for node in tree.body:
                bound += [alias.name for alias in getattr(node, "names", [])]
                bound += [node.name] if isinstance(node, (ast.FunctionDef, ast.ClassDef)) else []
                bound += [node.targets[0].id] if isinstance(node, ast.Assign) else []
            self.assertEqual(len(bound), len(set(bound)), path.name)
            hidden = {alias.name for node in tree.body for alias in getattr(node, "names", [])}
            hidden |= {node.name for node in tree.body if isinstance(node, ast.ClassDef)}
            for node in ast.walk(tree):
                if isinstance(node, ast.arg):
                    self.assertNotIn(node.arg, hidden, (path.name, node.lineno))
                if isinstance(node, ast.Name) and isinstance(node.ctx, ast.Store):
                    self.assertNotIn(node.id, hidden, (path.name, node.lineno))

    def test_module_level(self):
        for path, text in PARSED:
            for node in ast.parse(text).body:
                docstring = isinstance(node, ast.Expr) and isinstance(node.value, ast.Constant)
                plain = (ast.ImportFrom, ast.FunctionDef, ast.ClassDef, ast.Assign)
                self.assertTrue(docstring or isinstance(node, plain), (path.name, node.lineno))

    def test_decorators(self):
        for where, node in self.each_node():
            if isinstance(node, ast.ClassDef):
                self.assertEqual(node.decorator_list, [], where)
            if isinstance(node, ast.FunctionDef):
                signs = [ast.unparse(sign) for sign in node.decorator_list]
                self.assertIn(signs, ([], ["property"], ["staticmethod"], ["classmethod"]), where)

    def test_what_is_not_used(self):
        for where, node in self.each_node():
            self.assertNotIsInstance(node, NO_NODES, where)
            if isinstance(node, ast.Constant):
                self.assertNotIsInstance(node.value, (float, complex), where)
            if isinstance(node, ast.Call) and isinstance(node.func, ast.Attribute):
                self.assertNotEqual(node.func.attr, "sort", where)

    def test_with_blocks_and_what_ends_them(self):
        plain = (ast.Attribute, ast.Name)
        for where, node in self.each_node():
            if isinstance(node, ast.With):
                for item in node.items:
                    self.assertIsInstance(item.context_expr, (ast.Call, *plain), where)
            if isinstance(node, ast.FunctionDef) and node.name == "__exit__":
                for row in node.body:
                    self.assertIsInstance(row, ast.Assign, where)
                    self.assertIsInstance(row.targets[0], plain, where)
                    self.assertIsInstance(row.value, plain, where)

    def test_objects_are_iterated_over_by_one_statement(self):
        for where, node in self.each_node():
            if isinstance(node, ast.FunctionDef) and node.name in ("__iter__", "__len__"):
                self.assertEqual(len(node.body), 1, where)
                self.assertRegex(ast.unparse(node.body[0]), r"\Areturn (iter|len)\(self(\.\w+){1,2}\)\Z", where)

    def test_own_names_are_not_those_of_properties_or_methods(self):
        names = {"property": [], "method": [], "attribute": []}
        for _, node in self.each_node():
            for part in getattr(node, "body", []) if isinstance(node, ast.ClassDef) else []:
                if isinstance(part, ast.FunctionDef):
                    names["property" if part.decorator_list else "method"].append(part.name)
            if isinstance(node, ast.Attribute) and isinstance(node.ctx, ast.Store):
                names["attribute"].append(node.attr)
        for one, two in (("property", "method"), ("property", "attribute"), ("method", "attribute")):
            self.assertEqual(set(names[one]) & set(names[two]), set())
        self.assertEqual(len(names["property"]), len(set(names["property"])))

    def test_names(self):
        for where, node in self.each_node():
            if isinstance(node, ast.Name) and hasattr(builtins, node.id):
                self.assertIn(node.id, BUILTINS, where)
                self.assertIsInstance(node.ctx, ast.Load, where)
            if isinstance(node, (ast.Name, ast.arg, ast.Attribute, ast.FunctionDef, ast.ClassDef)):
                name = [getattr(node, key) for key in ("id", "arg", "attr", "name") if hasattr(node, key)][0]
                self.assertNotIn(name, NO_NAMES, where)
            if isinstance(node, (ast.arg, ast.FunctionDef, ast.ClassDef)):
                self.assertFalse(hasattr(builtins, name) and not name.startswith("__"), where)

    def test_words(self):
        for path, text in PARSED:
            code = words_without_docstrings(ast.parse(text))
            self.assertIsNone(re.search(rf"\b({NO_WORDS})\b|dataclass|overload|contextmanager", code), path.name)


if __name__ == "__main__":
    unittest.main()
