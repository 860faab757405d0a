"""Some of the rules of the language that the program keeps to, as far as a look at the files tells."""

import ast
import builtins
import pathlib
import unittest

PACKAGE = pathlib.Path(__file__).parent.parent / "subjecttags"
FILES = sorted(PACKAGE.rglob("*.py"))
BUILTINS = {"len", "range", "enumerate", "zip", "sorted", "isinstance", "int", "str", "bool", "list", "tuple", "all",
            "any", "max", "min", "sum", "ValueError"}
METHODS = {"append", "index", "items", "get", "keys", "values", "count", "extend", "pop"}


def nodes(kind):
    for path in FILES:
        for node in ast.walk(ast.parse(path.read_text())):
            if isinstance(node, kind):
                yield path.name, node


class Language(unittest.TestCase):
    def test_files(self):
        self.assertTrue({"__init__.py", "errors.py", "eaters.py", "makers.py"} <= {path.name for path in FILES})
        others = [path for path in PACKAGE.rglob("*") if path.suffix != ".py" and "__pycache__" not in path.parts]
        self.assertEqual(others, [])

    def test_sizes_and_characters(self):
        for path in FILES:
            lines = path.read_text().splitlines()
            self.assertLess(len(lines), 400, path)
            for line in lines:
                self.assertLessEqual(len(line), 120, line)
                self.assertTrue(all(" " <= sign <= "~" for sign in line), line)
        for name, node in nodes(ast.FunctionDef):
            self.assertLessEqual(node.end_lineno - node.lineno + 1, 40, (name, node.name))
            self.assertEqual(node.decorator_list, [], (name, node.name))

    def test_imports_from_the_file_that_defines_the_name(self):
        for name, node in nodes((ast.Import, ast.ImportFrom)):
            self.assertIsInstance(node, ast.ImportFrom, name)
            self.assertEqual(node.level, 0, name)
            folder, _, module = node.module.partition(".")
            self.assertEqual(folder, "subjecttags", name)
            tree = ast.parse((PACKAGE / f"{module}.py").read_text())
            defined = {part.name for part in tree.body if isinstance(part, (ast.FunctionDef, ast.ClassDef))}
            defined |= {part.targets[0].id for part in tree.body if isinstance(part, ast.Assign)}
            for alias in node.names:
                self.assertIn(alias.name, defined, name)
                self.assertIsNone(alias.asname, name)

    def test_builtins(self):
        for name, node in nodes(ast.Name):
            if isinstance(node.ctx, ast.Store):
                self.assertNotIn(node.id, vars(builtins), name)
            elif node.id in vars(builtins):
                self.assertIn(node.id, BUILTINS, name)
        for name, node in nodes((ast.FunctionDef, ast.ClassDef, ast.arg)):
            self.assertNotIn(getattr(node, "name", getattr(node, "arg", "")), vars(builtins), name)

    def test_what_is_not_used(self):
        unused = (ast.Set, ast.SetComp, ast.GeneratorExp, ast.Yield, ast.YieldFrom, ast.Try, ast.Global, ast.AnnAssign,
                  ast.AsyncFunctionDef, ast.Await, ast.Div, ast.Match, ast.With, ast.NamedExpr)
        self.assertEqual([(name, node.lineno) for name, node in nodes(unused)], [])
        for name, node in nodes(ast.Compare):
            for sign, right in zip(node.ops, node.comparators):
                if isinstance(sign, (ast.Is, ast.IsNot)):
                    self.assertIsInstance(right, ast.Constant, (name, node.lineno))
        for name, node in nodes(ast.Constant):
            self.assertFalse(isinstance(node.value, float), (name, node.lineno))

    def test_locals_have_no_name_of_an_import_or_a_class(self):
        for path in FILES:
            tree = ast.parse(path.read_text())
            taken = {alias.name for part in tree.body if isinstance(part, ast.ImportFrom) for alias in part.names}
            taken |= {part.name for part in tree.body if isinstance(part, ast.ClassDef)}
            for node in ast.walk(tree):
                if isinstance(node, ast.arg):
                    self.assertNotIn(node.arg, taken, path.name)
                if isinstance(node, ast.Name) and isinstance(node.ctx, ast.Store):
                    self.assertNotIn(node.id, taken, path.name)


if __name__ == "__main__":
    unittest.main()
