"""The rules of LANGUAGE.md that can be seen by counting: L1, L2, L7, L8, L10, L14, L15, L16, L25."""

import ast
import builtins
import os
import unittest
import warnings

PACKAGE = os.path.join(os.path.dirname(os.path.dirname(os.path.abspath(__file__))), "paidahead")
LIBRARY = ("heapq", "math", "itertools", "collections")
FUNCTIONS = (ast.FunctionDef, ast.AsyncFunctionDef)

# The builtins and the methods of builtin values that the package uses, all of which L8 and L25 allow.
BUILTINS = (
    "LookupError", "OverflowError", "RuntimeError", "ValueError", "all", "any", "bool", "enumerate", "int",
    "isinstance", "len", "list", "max", "range", "reversed", "sorted", "str", "sum", "tuple", "zip",
)
# Without the newest answer, which Python puts there where it is asked line by line.
ALL_BUILTINS = tuple(name for name in dir(builtins) if name != "_")
METHODS = ("append", "extend", "get", "items", "join", "pop", "split", "update", "values")

# What the package does without.
LEFT_OUT = (
    ast.AsyncFunctionDef, ast.Await, ast.Div, ast.GeneratorExp, ast.Global, ast.Nonlocal, ast.Set, ast.SetComp,
    ast.With, ast.Yield, ast.YieldFrom, ast.NamedExpr, ast.AnnAssign,
)


def sources():
    found = []
    for folder, folders, files in os.walk(PACKAGE):
        folders[:] = sorted(name for name in folders if name != "__pycache__")
        for name in sorted(files):
            with open(os.path.join(folder, name), encoding="utf-8") as file:
                found.append((os.path.relpath(os.path.join(folder, name), PACKAGE), file.read()))
    return found


def defined_in(tree):
    found = {node.name for node in tree.body if isinstance(node, FUNCTIONS + (ast.ClassDef,))}
    for node in tree.body:
        if isinstance(node, ast.Assign):
            found.update(target.id for target in node.targets)
    return found


class LanguageTest(unittest.TestCase):
    def test_files(self):
        names = [name for name, _ in sources()]
        self.assertIn("__init__.py", names)
        self.assertLessEqual(len(names), 100)
        for name in names:
            self.assertRegex(name, r"^[a-z0-9_/]+\.py$")

    def test_sizes_and_characters(self):
        for name, text in sources():
            lines = text.split("\n")
            self.assertLessEqual(len(lines) - 1, 399, name)
            for number, line in enumerate(lines, 1):
                with self.subTest(name, line=number):
                    self.assertLessEqual(len(line), 120)
                    self.assertTrue(all(" " <= sign <= "~" for sign in line))

    def test_functions_have_at_most_40_lines(self):
        for name, text in sources():
            for node in ast.walk(ast.parse(text)):
                if isinstance(node, FUNCTIONS):
                    self.assertLessEqual(node.end_lineno - node.lineno + 1, 40, (name, node.name))

    def test_imports_stand_at_the_top_and_take_names_from_own_files(self):
        for name, text in sources():
            tree = ast.parse(text)
            body = tree.body[1:] if ast.get_docstring(tree) is not None else tree.body
            at_top = True
            for node in body:
                is_import = isinstance(node, ast.ImportFrom)
                self.assertTrue(at_top or not is_import, name)
                at_top = is_import
                if is_import:
                    first = node.module.split(".")[0]
                    self.assertTrue(first == "paidahead" or node.module in LIBRARY, (name, node.module))
                    self.assertEqual(node.level, 0)
                    self.assertTrue(all(part.name != "*" for part in node.names), name)
            self.assertFalse([node for node in ast.walk(tree) if isinstance(node, ast.Import)], name)

    def test_each_name_is_bound_once_at_module_level(self):
        for name, text in sources():
            bound = []
            for node in ast.parse(text).body:
                if isinstance(node, FUNCTIONS + (ast.ClassDef,)):
                    bound.append(node.name)
                elif isinstance(node, ast.ImportFrom):
                    bound.extend(part.asname or part.name for part in node.names)
                elif isinstance(node, ast.Assign):
                    bound.extend(target.id for target in node.targets)
            self.assertEqual(len(bound), len(set(bound)), name)

    def test_no_name_hides_an_import_a_class_or_a_builtin(self):
        for name, text in sources():
            tree = ast.parse(text)
            taken = set(ALL_BUILTINS)
            for node in tree.body:
                if isinstance(node, ast.ClassDef):
                    taken.add(node.name)
                elif isinstance(node, ast.ImportFrom):
                    taken.update(part.name for part in node.names)
            bound = [node.id for node in ast.walk(tree) if isinstance(node, ast.Name) and isinstance(node.ctx, ast.Store)]
            bound += [node.arg for node in ast.walk(tree) if isinstance(node, ast.arg)]
            self.assertEqual(taken & set(bound), set(), name)

    def test_each_import_is_used_and_names_the_file_that_defines_it(self):
        trees = {name: ast.parse(text) for name, text in sources()}
        for name, tree in trees.items():
            used = {node.id for node in ast.walk(tree) if isinstance(node, ast.Name)}
            for node in tree.body:
                if isinstance(node, ast.ImportFrom):
                    self.assertEqual({part.name for part in node.names} - used, set(), name)
                    if node.module.startswith("paidahead."):
                        defined = defined_in(trees[node.module.partition(".")[2] + ".py"])
                        self.assertEqual({part.name for part in node.names} - defined, set(), name)

    def test_builtins_and_methods(self):
        own = {node.name for _, text in sources() for node in ast.walk(ast.parse(text)) if isinstance(node, FUNCTIONS)}
        for name, text in sources():
            for node in ast.walk(ast.parse(text)):
                self.assertNotIsInstance(node, LEFT_OUT, name)
                if isinstance(node, ast.Name) and node.id in ALL_BUILTINS:
                    self.assertIn(node.id, BUILTINS, name)
                if isinstance(node, ast.Call) and isinstance(node.func, ast.Attribute):
                    self.assertTrue(node.func.attr in own or node.func.attr in METHODS, (name, node.func.attr))

    def test_python_gives_no_warning(self):
        with warnings.catch_warnings():
            warnings.simplefilter("error")
            for name, text in sources():
                compile(text, name, "exec")


if __name__ == "__main__":
    unittest.main()
