"""The rules for the package's text that can be seen row by row."""

import ast
import builtins
import pathlib
import unittest

TOP = pathlib.Path(__file__).resolve().parent.parent / "comeright"
BUILTINS = {
    "len", "range", "enumerate", "zip", "min", "max", "sum", "abs", "sorted", "reversed", "int", "str", "bool", "list",
    "tuple", "dict", "set", "isinstance", "ord", "repr", "any", "all", "divmod", "type", "super", "map",
    "ValueError", "TypeError", "KeyError", "IndexError", "LookupError", "OverflowError", "RuntimeError",
}
METHODS = set(
    "append clear copy count endswith extend find get index insert isalnum isalpha isdigit islower isspace isupper items "
    "join keys ljust lower lstrip partition pop remove replace reverse rfind rjust rpartition rsplit rstrip setdefault "
    "split splitlines startswith strip update upper values zfill bit_length isascii".split()
)
TAKEN = set(
    "next iter round hash map filter format id input open vars dir type object property super register law elements "
    "mro exit quit help license credits copyright compile eval exec globals locals os sys gc".split()
) | BUILTINS | set(dir(builtins))
PLAIN = (ast.Import, ast.ImportFrom, ast.FunctionDef, ast.ClassDef, ast.Assign, ast.Expr)
BARRED = (
    ast.Global, ast.Nonlocal, ast.AsyncFunctionDef, ast.Await, ast.GeneratorExp, ast.SetComp, ast.Set, ast.Yield,
    ast.YieldFrom, ast.With, ast.Div, ast.MatMult, ast.AnnAssign, ast.NamedExpr,
)


def texts():
    return {path: path.read_text() for path in sorted(TOP.rglob("*.py"))}


class Language(unittest.TestCase):
    def setUp(self):
        self.trees = {path: ast.parse(text) for path, text in texts().items()}

    def test_files(self):
        for path in TOP.rglob("*"):
            if path.name != "__pycache__" and path.suffix != ".pyc":
                self.assertTrue(path.is_dir() or path.suffix == ".py", path)
            if path.is_dir() and path.name != "__pycache__":
                self.assertTrue((path / "__init__.py").exists(), path)
                self.assertFalse(path.with_suffix(".py").exists(), path)
        self.assertLessEqual(len(self.trees), 100)

    def test_sizes_and_signs(self):
        for path, text in texts().items():
            rows = text.split("\n")
            self.assertLessEqual(len(rows), 399, path)
            self.assertLessEqual(max(map(len, rows)), 120, path)
            self.assertTrue(all(" " <= sign <= "~" for row in rows for sign in row), path)
            for node in ast.walk(self.trees[path]):
                if isinstance(node, ast.FunctionDef):
                    self.assertLessEqual(node.end_lineno - node.lineno + 1, 40, (path, node.name))

    def test_module_level(self):
        for path, tree in self.trees.items():
            bound = []
            for node in tree.body:
                self.assertIsInstance(node, PLAIN, path)
                if isinstance(node, ast.Assign):
                    self.assertEqual([type(target) for target in node.targets], [ast.Name])
                    bound.append(node.targets[0].id)
                elif isinstance(node, ast.ImportFrom):
                    self.assertEqual((node.level, node.module.partition(".")[0]), (0, "comeright"))
                    bound += [alias.asname or alias.name for alias in node.names]
                elif isinstance(node, (ast.FunctionDef, ast.ClassDef)):
                    bound.append(node.name)
                else:
                    self.assertIsInstance(node, ast.Expr)
                    self.assertIsInstance(node.value, ast.Constant)
            self.assertEqual(len(bound), len(set(bound)), path)
            self.assertEqual(set(bound) & TAKEN, set())

    def test_statements_and_values(self):
        for path, tree in self.trees.items():
            for node in ast.walk(tree):
                self.assertNotIsInstance(node, BARRED, (path, getattr(node, "lineno", 0)))
                if isinstance(node, ast.Constant):
                    self.assertNotIsInstance(node.value, (float, complex))
                if isinstance(node, ast.Try):
                    self.assertEqual([ast.unparse(part.type) for part in node.handlers], ["KeyError"])
                    self.assertEqual(node.finalbody, [])
                if isinstance(node, ast.FunctionDef):
                    self.assertEqual(node.decorator_list, [])
                    self.assertIsNone(node.returns)
                if isinstance(node, ast.Compare) and isinstance(node.ops[0], (ast.Is, ast.IsNot)):
                    self.one_side_is_fixed(node)

    def one_side_is_fixed(self, node):
        """Is stands beside None and truths, or between type(..) and a class."""
        right = node.comparators[0]
        if isinstance(right, ast.Name):
            self.assertEqual(ast.unparse(node.left)[:5], "type(")
        else:
            self.assertIsInstance(right, ast.Constant)

    def test_names(self):
        for path, tree in self.trees.items():
            imports = {
                alias.name for node in tree.body if isinstance(node, ast.ImportFrom) for alias in node.names
            }
            for node in ast.walk(tree):
                if isinstance(node, ast.arg):
                    self.assertNotIn(node.arg, imports | TAKEN, path)
                if isinstance(node, ast.Name) and isinstance(node.ctx, ast.Store) and node.id != "_":
                    self.assertNotIn(node.id, imports | TAKEN, (path, node.lineno))

    def test_calls(self):
        own = {
            part.name for tree in self.trees.values() for node in ast.walk(tree) if isinstance(node, ast.ClassDef)
            for part in node.body if isinstance(part, ast.FunctionDef)
        }
        self.assertEqual(own & METHODS, set())
        for path, tree in self.trees.items():
            module = {node.id for node in ast.walk(tree) if isinstance(node, ast.Name) and isinstance(node.ctx, ast.Store)}
            module |= {node.name for node in ast.walk(tree) if isinstance(node, (ast.FunctionDef, ast.ClassDef))}
            module |= {a.name for node in ast.walk(tree) if isinstance(node, ast.ImportFrom) for a in node.names}
            module |= {node.arg for node in ast.walk(tree) if isinstance(node, ast.arg)}
            for node in ast.walk(tree):
                if isinstance(node, ast.Call) and isinstance(node.func, ast.Name):
                    self.assertIn(node.func.id, module | BUILTINS, (path, node.lineno))
                if isinstance(node, ast.Call) and isinstance(node.func, ast.Attribute):
                    self.assertIn(node.func.attr, METHODS | own, (path, node.lineno))

    def test_what_is_not_taken_by_name(self):
        """A call of a thing in a table: it is given a name first; builtins are called, not handed on."""
        for path, tree in self.trees.items():
            called = {id(node.func) for node in ast.walk(tree) if isinstance(node, ast.Call)}
            asked = {id(node.args[1]) for node in ast.walk(tree) if isinstance(node, ast.Call) and len(node.args) == 2}
            for node in ast.walk(tree):
                if isinstance(node, ast.Call):
                    self.assertIsInstance(node.func, (ast.Name, ast.Attribute), (path, node.lineno))
                if isinstance(node, ast.Name) and node.id in ("len", "min", "max", "sum", "sorted", "any", "all", "range"):
                    self.assertTrue(id(node) in called or id(node) in asked, (path, node.lineno))

    def test_lists_and_dicts_at_module_level_are_only_looked_into(self):
        kept = {
            node.targets[0].id for tree in self.trees.values() for node in tree.body
            if isinstance(node, ast.Assign) and isinstance(node.value, (ast.Dict, ast.List))
        }
        self.assertIn("OPS", kept)
        for path, tree in self.trees.items():
            inner = {
                id(part) for node in ast.walk(tree) if isinstance(node, ast.Assign) and node in tree.body
                for part in ast.walk(node.value)
            }
            well = set()
            for node in ast.walk(tree):
                if isinstance(node, ast.Subscript):
                    well.add(id(node.value))
                if isinstance(node, ast.Compare):
                    well |= {id(part) for part in node.comparators}
                if isinstance(node, (ast.For, ast.comprehension)):
                    well.add(id(node.iter))
                if isinstance(node, ast.Call) and isinstance(node.func, ast.Name) and node.func.id in ("list", "dict", "len", "sorted"):
                    well |= {id(part) for part in node.args}
            for node in ast.walk(tree):
                if isinstance(node, ast.Name) and node.id in kept and isinstance(node.ctx, ast.Load):
                    self.assertTrue(id(node) in well | inner, (path, node.lineno))

    def test_no_two_files_import_from_each_other(self):
        near = {}
        for path, tree in self.trees.items():
            name = ".".join(("comeright",) + path.relative_to(TOP).with_suffix("").parts)
            near[name] = {node.module for node in tree.body if isinstance(node, ast.ImportFrom)}
        while near:
            free = [name for name in near if not near[name] & set(near)]
            self.assertNotEqual(free, [], sorted(near))
            near = {name: near[name] for name in near if name not in free}
