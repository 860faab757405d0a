"""Some of the rules of the language that the program keeps to, as far as a look at the files tells."""

import ast
import builtins
import pathlib
import unittest

PACKAGE = pathlib.Path(__file__).parent.parent / "subjecttags"
FILES = sorted(PACKAGE.rglob("*.py"))
BUILTINS = {"len", "range", "enumerate", "zip", "sorted", "isinstance", "int", "str", "bool", "list", "tuple", "all",
            "any", "max", "min", "sum", "ValueError", "TypeError"}
# L25, as far as it is needed.
METHODS = {"append", "bit_length", "copy", "count", "endswith", "extend", "find", "get", "index", "insert", "items", "join",
           "keys", "partition", "pop", "setdefault", "split", "startswith", "values"}
# L2, L17 and L12.
LIBRARY = {"heapq": {"heappush", "heappop", "heapify"}}
UNUSED_NAMES = {"mro", "elements", "open", "input", "law", "version_info", "with_traceback", "add_note", "register", "type",
                "typing", "enum", "Flag", "Generic", "Protocol", "ABC", "namedtuple", "overload", "dataclass", "Meta",
                "compile", "copyright", "credits", "delattr", "dir", "eval", "exec", "exit", "gc", "getattr", "globals",
                "hasattr", "help", "id", "license", "locals", "os", "quit", "setattr", "super", "vars", "sys", "builtins",
                "format", "format_map", "args", "sort"}
UNUSED_BEGINNINGS = ("_wall", "_pe_", "_dcw_", "_enum_", "_cm_", "_twin_re_", "_lay_", "_law_", "_stub_", "_sre")
OWN_DOUBLE = {"__init__", "__eq__", "__len__", "__contains__", "__getitem__", "__iter__", "__enter__", "__exit__"}


def nodes(kind):
    for path in FILES:
        for node in ast.walk(ast.parse(path.read_text())):
            if isinstance(node, kind):
                yield path.name, node


class Language(unittest.TestCase):
    def test_files(self):
        listed = {"__init__.py", "errors.py", "eaters.py", "makers.py", "reaching.py", "keys.py", "mailbox.py", "text.py"}
        self.assertTrue(listed <= {path.name for path in FILES})
        others = [path for path in PACKAGE.rglob("*") if path.suffix != ".py" and "__pycache__" not in path.parts]
        self.assertEqual(others, [])

    def test_sizes_and_characters(self):
        for path in FILES:
            lines = path.read_text().splitlines()
            self.assertLess(len(lines), 400, path)
            for line in lines:
                self.assertLessEqual(len(line), 120, line)
                self.assertTrue(all(" " <= sign <= "~" for sign in line), line)
        for name, node in nodes(ast.FunctionDef):
            self.assertLessEqual(node.end_lineno - node.lineno + 1, 40, (name, node.name))
            self.assertEqual(node.decorator_list, [], (name, node.name))

    def test_imports_from_the_file_that_defines_the_name(self):
        for name, node in nodes((ast.Import, ast.ImportFrom)):
            self.assertIsInstance(node, ast.ImportFrom, name)
            self.assertEqual(node.level, 0, name)
            if node.module in LIBRARY:
                self.assertTrue({alias.name for alias in node.names} <= LIBRARY[node.module], name)
                continue
            folder, _, module = node.module.partition(".")
            self.assertEqual(folder, "subjecttags", name)
            tree = ast.parse((PACKAGE / f"{module}.py").read_text())
            defined = {part.name for part in tree.body if isinstance(part, (ast.FunctionDef, ast.ClassDef))}
            defined |= {part.targets[0].id for part in tree.body if isinstance(part, ast.Assign)}
            for alias in node.names:
                self.assertIn(alias.name, defined, name)
                self.assertIsNone(alias.asname, name)

    def test_builtins(self):
        for name, node in nodes(ast.Name):
            if isinstance(node.ctx, ast.Store):
                self.assertNotIn(node.id, vars(builtins), name)
            elif node.id in vars(builtins):
                self.assertIn(node.id, BUILTINS, name)
        for name, node in nodes((ast.FunctionDef, ast.ClassDef, ast.arg)):
            self.assertNotIn(getattr(node, "name", getattr(node, "arg", "")), vars(builtins), name)

    def test_what_is_not_used(self):
        unused = (ast.Set, ast.SetComp, ast.GeneratorExp, ast.Yield, ast.YieldFrom, ast.Try, ast.Global, ast.AnnAssign,
                  ast.AsyncFunctionDef, ast.Await, ast.Div, ast.Match, ast.With, ast.NamedExpr)
        self.assertEqual([(name, node.lineno) for name, node in nodes(unused)], [])
        for name, node in nodes(ast.Compare):
            for sign, right in zip(node.ops, node.comparators):
                if isinstance(sign, (ast.Is, ast.IsNot)):
                    self.assertIsInstance(right, ast.Constant, (name, node.lineno))
        for name, node in nodes(ast.Constant):
            self.assertFalse(isinstance(node.value, float), (name, node.lineno))

    def test_no_two_files_import_from_each_other(self):
        imports = {}
        for path in FILES:
            imports[path.stem] = {node.module.partition(".")[2] for node in ast.walk(ast.parse(path.read_text()))
                                  if isinstance(node, ast.ImportFrom)} - {""}
        while imports:
            free = [name for name, others in imports.items() if not others & set(imports)]
            self.assertNotEqual(free, [], imports)
            for name in free:
                del imports[name]

    def test_names(self):
        for name, node in nodes((ast.Name, ast.Attribute, ast.FunctionDef, ast.ClassDef, ast.arg, ast.keyword, ast.alias)):
            told = [getattr(node, field, None) for field in ("id", "attr", "name", "arg")]
            for word in [word for word in told if isinstance(word, str)]:
                self.assertNotIn(word, UNUSED_NAMES, (name, node.lineno))
                self.assertFalse(word.startswith(UNUSED_BEGINNINGS), (name, node.lineno))
                self.assertTrue(not word.startswith("__") or word in OWN_DOUBLE, (name, node.lineno))

    def test_methods_and_attributes(self):
        methods, attributes = set(), set()
        for _, made in nodes(ast.ClassDef):
            methods |= {part.name for part in made.body if isinstance(part, ast.FunctionDef)}
        for name, node in nodes(ast.Attribute):
            if isinstance(node.ctx, ast.Store):
                attributes.add(node.attr)
        self.assertEqual(methods & attributes, set())
        for name, node in nodes(ast.Call):
            if isinstance(node.func, ast.Attribute):
                self.assertIn(node.func.attr, METHODS | methods, (name, node.lineno))
                self.assertFalse(node.func.attr in METHODS and node.keywords, (name, node.lineno))
        for name, node in nodes(ast.Attribute):
            self.assertIn(node.attr, METHODS | methods | attributes, (name, node.lineno))

    def test_strings(self):
        for name, node in nodes(ast.Constant):
            if isinstance(node.value, str):
                self.assertTrue("__" not in node.value and "._" not in node.value, (name, node.lineno))
        for name, node in nodes(ast.BinOp):
            self.assertNotIsInstance(node.op, (ast.Mod, ast.Pow, ast.Div), (name, node.lineno))

    def test_what_a_loop_goes_over_is_not_changed_in_it(self):
        changing = METHODS & {"append", "extend", "insert", "pop", "setdefault"} | {"heappush", "heappop"}
        for name, node in nodes((ast.For,)):
            gone_over = {ast.unparse(part) for part in ast.walk(node.iter) if isinstance(part, (ast.Name, ast.Attribute))}
            for part in [inner for row in node.body for inner in ast.walk(row)]:
                if isinstance(part, ast.Call) and isinstance(part.func, ast.Attribute) and part.func.attr in changing:
                    self.assertNotIn(ast.unparse(part.func.value), gone_over, (name, part.lineno))
                if isinstance(part, ast.Subscript) and not isinstance(part.ctx, ast.Load):
                    self.assertNotIn(ast.unparse(part.value), gone_over, (name, part.lineno))

    def test_module_level(self):
        for path in FILES:
            for part in ast.parse(path.read_text()).body:
                plain = isinstance(part, (ast.ImportFrom, ast.FunctionDef, ast.ClassDef))
                doc = isinstance(part, ast.Expr) and isinstance(part.value, ast.Constant)
                value = isinstance(part, ast.Assign) and isinstance(part.value, (ast.Constant, ast.Tuple))
                self.assertTrue(plain or doc or value, (path.name, part.lineno))

    def test_locals_have_no_name_of_an_import_or_a_class(self):
        for path in FILES:
            tree = ast.parse(path.read_text())
            taken = {alias.name for part in tree.body if isinstance(part, ast.ImportFrom) for alias in part.names}
            taken |= {part.name for part in tree.body if isinstance(part, ast.ClassDef)}
            for node in ast.walk(tree):
                if isinstance(node, ast.arg):
                    self.assertNotIn(node.arg, taken, path.name)
                if isinstance(node, ast.Name) and isinstance(node.ctx, ast.Store):
                    self.assertNotIn(node.id, taken, path.name)


if __name__ == "__main__":
    unittest.main()
