"""The rules for the package's text that can be seen row by row."""

import ast
import builtins
import pathlib
import unittest

from comeright import errors

TOP = pathlib.Path(__file__).resolve().parent.parent / "comeright"
BUILTINS = {
    "len", "range", "enumerate", "zip", "min", "max", "sum", "abs", "sorted", "reversed", "int", "str", "bool", "list",
    "tuple", "dict", "set", "isinstance", "ord", "repr", "any", "all", "divmod", "type", "super", "map",
    "ValueError", "TypeError", "KeyError", "IndexError", "LookupError", "OverflowError", "RuntimeError",
}
METHODS = set(
    "append clear copy count endswith extend find get index insert isalnum isalpha isdigit islower isspace isupper items "
    "join keys ljust lower lstrip partition pop remove replace reverse rfind rjust rpartition rsplit rstrip setdefault "
    "split splitlines startswith strip update upper values zfill bit_length isascii".split()
)
TAKEN = set(
    "next iter round hash map filter format id input open vars dir type object property super register law elements "
    "mro exit quit help license credits copyright compile eval exec globals locals os sys gc".split()
) | BUILTINS | set(dir(builtins))
PLAIN = (ast.Import, ast.ImportFrom, ast.FunctionDef, ast.ClassDef, ast.Assign, ast.Expr)
BARRED = (
    ast.Global, ast.Nonlocal, ast.AsyncFunctionDef, ast.Await, ast.GeneratorExp, ast.SetComp, ast.Set, ast.Yield,
    ast.YieldFrom, ast.With, ast.Div, ast.MatMult, ast.AnnAssign, ast.NamedExpr,
)

# Calls with stars: what may stand in them, and what may not.
STARS_WELL = (
    "zip(*told)", "zip(*net.rows, told)", "made(row(1), *told)", "made(*told, 1, key=net.rows)", "max(*told, key=least)",
    "made(*(told, 1), [net.rows, ()])", "made(*[told], {'word': told})", "made(**words)", "made(told, 1, **net.words)",
    "made(*told, **words)", "zip(told, row(1))", "net.made(*told)",
)
STARS_ILL = (
    "zip(*row(1))", "zip(*net.rows())", "zip(told, *row(1))", "zip(*told[0])", "zip(*told[1:])", "zip(*net.hands.rows)",
    "zip(*row(1).rows)", "zip(*told + told)", "zip(*[row(1)])", "zip(*(told, row(1)))", "zip(*[part for part in told])",
    "zip(*(told if net else row))", "zip(*told, row(1))", "zip(*told, *row(1))", "max(*told, key=lambda part: part)",
    "made(*told, size=row(1))", "made(*told, {'word': row(1)})", "made(*told, {**words})", "made(size=1, *told)",
    "made(**row(1))", "made(**{'size': 1})", "made(**net.hands.words)", "made(row(1), **words)", "made(size=1, **words)",
    "made(**words, **words)", "list(zip(*row(1)))", "list(*told)", "sorted(*told)", "told.index(*told)", "NoSeat(*told)",
    "[zip(*row(1)) for part in told]", "made(zip(*row(1)))", "made(*f'{told}')",
)


def is_plain(node):
    """Whether it may stand behind a star: a name, an attribute off a name, a literal, or a row or dict of these."""
    if isinstance(node, (ast.List, ast.Tuple)):
        return all(map(is_plain, node.elts))
    if isinstance(node, ast.Dict):
        return all(map(is_plain, node.keys + node.values))
    if isinstance(node, ast.Attribute):
        return isinstance(node.value, ast.Name)
    return isinstance(node, (ast.Name, ast.Constant))


def takes_stars(func):
    """Whether what is called may be called with stars: no error, no builtin but three, no method of a builtin value."""
    if isinstance(func, ast.Name):
        return func.id in ("max", "min", "zip") or func.id not in BUILTINS and not hasattr(errors, func.id)
    return isinstance(func, ast.Attribute) and func.attr not in METHODS


def is_well_starred(call):
    """Whether behind a star of a call, and beside two, stands only what may, no keyword ahead of a star among it."""
    stars = [at for at, part in enumerate(call.args) if isinstance(part, ast.Starred)]
    words = [word.value for word in call.keywords if word.arg is None]
    if not stars and not words:
        return True
    if words and (len(call.keywords) > 1 or not isinstance(words[0], (ast.Name, ast.Attribute))):
        return False
    if stars and any((word.lineno, word.col_offset) < (call.args[stars[-1]].lineno, call.args[stars[-1]].col_offset) for word in call.keywords):
        return False
    behind = (call.args if words else call.args[stars[0]:]) + [word.value for word in call.keywords]
    return takes_stars(call.func) and all(is_plain(part.value if isinstance(part, ast.Starred) else part) for part in behind)


def ill_starred(tree):
    """The rows of a file in which a call with stars is against the rule."""
    return [node.lineno for node in ast.walk(tree) if isinstance(node, ast.Call) and not is_well_starred(node)]


def texts():
    return {path: path.read_text() for path in sorted(TOP.rglob("*.py"))}


class Language(unittest.TestCase):
    def setUp(self):
        self.trees = {path: ast.parse(text) for path, text in texts().items()}

    def test_files(self):
        for path in TOP.rglob("*"):
            if path.name != "__pycache__" and path.suffix != ".pyc":
                self.assertTrue(path.is_dir() or path.suffix == ".py", path)
            if path.is_dir() and path.name != "__pycache__":
                self.assertTrue((path / "__init__.py").exists(), path)
                self.assertFalse(path.with_suffix(".py").exists(), path)
        self.assertLessEqual(len(self.trees), 100)

    def test_sizes_and_signs(self):
        for path, text in texts().items():
            rows = text.split("\n")
            self.assertLessEqual(len(rows), 399, path)
            self.assertLessEqual(max(map(len, rows)), 120, path)
            self.assertTrue(all(" " <= sign <= "~" for row in rows for sign in row), path)
            for node in ast.walk(self.trees[path]):
                if isinstance(node, ast.FunctionDef):
                    self.assertLessEqual(node.end_lineno - node.lineno + 1, 40, (path, node.name))

    def test_module_level(self):
        for path, tree in self.trees.items():
            bound = []
            for node in tree.body:
                self.assertIsInstance(node, PLAIN, path)
                if isinstance(node, ast.Assign):
                    self.assertEqual([type(target) for target in node.targets], [ast.Name])
                    bound.append(node.targets[0].id)
                elif isinstance(node, ast.ImportFrom):
                    self.assertEqual((node.level, node.module.partition(".")[0]), (0, "comeright"))
                    bound += [alias.asname or alias.name for alias in node.names]
                elif isinstance(node, (ast.FunctionDef, ast.ClassDef)):
                    bound.append(node.name)
                else:
                    self.assertIsInstance(node, ast.Expr)
                    self.assertIsInstance(node.value, ast.Constant)
            self.assertEqual(len(bound), len(set(bound)), path)
            self.assertEqual(set(bound) & TAKEN, set())

    def test_statements_and_values(self):
        for path, tree in self.trees.items():
            for node in ast.walk(tree):
                self.assertNotIsInstance(node, BARRED, (path, getattr(node, "lineno", 0)))
                if isinstance(node, ast.Constant):
                    self.assertNotIsInstance(node.value, (float, complex))
                if isinstance(node, ast.Try):
                    self.assertEqual([ast.unparse(part.type) for part in node.handlers], ["KeyError"])
                    self.assertEqual(node.finalbody, [])
                if isinstance(node, ast.FunctionDef):
                    self.assertEqual(node.decorator_list, [])
                    self.assertIsNone(node.returns)
                if isinstance(node, ast.Compare) and isinstance(node.ops[0], (ast.Is, ast.IsNot)):
                    self.one_side_is_fixed(node)

    def one_side_is_fixed(self, node):
        """Is stands beside None and truths, or between type(..) and a class."""
        right = node.comparators[0]
        if isinstance(right, ast.Name):
            self.assertEqual(ast.unparse(node.left)[:5], "type(")
        else:
            self.assertIsInstance(right, ast.Constant)

    def test_names(self):
        for path, tree in self.trees.items():
            imports = {
                alias.name for node in tree.body if isinstance(node, ast.ImportFrom) for alias in node.names
            }
            for node in ast.walk(tree):
                if isinstance(node, ast.arg):
                    self.assertNotIn(node.arg, imports | TAKEN, path)
                if isinstance(node, ast.Name) and isinstance(node.ctx, ast.Store) and node.id != "_":
                    self.assertNotIn(node.id, imports | TAKEN, (path, node.lineno))

    def test_calls(self):
        own = {
            part.name for tree in self.trees.values() for node in ast.walk(tree) if isinstance(node, ast.ClassDef)
            for part in node.body if isinstance(part, ast.FunctionDef)
        }
        self.assertEqual(own & METHODS, set())
        for path, tree in self.trees.items():
            module = {node.id for node in ast.walk(tree) if isinstance(node, ast.Name) and isinstance(node.ctx, ast.Store)}
            module |= {node.name for node in ast.walk(tree) if isinstance(node, (ast.FunctionDef, ast.ClassDef))}
            module |= {a.name for node in ast.walk(tree) if isinstance(node, ast.ImportFrom) for a in node.names}
            module |= {node.arg for node in ast.walk(tree) if isinstance(node, ast.arg)}
            for node in ast.walk(tree):
                if isinstance(node, ast.Call) and isinstance(node.func, ast.Name):
                    self.assertIn(node.func.id, module | BUILTINS, (path, node.lineno))
                if isinstance(node, ast.Call) and isinstance(node.func, ast.Attribute):
                    self.assertIn(node.func.attr, METHODS | own, (path, node.lineno))

    def test_calls_with_stars(self):
        """Behind a star, and beside two, stand names, attributes off a name, literals, and rows of these."""
        for text in STARS_WELL:
            self.assertEqual(ill_starred(ast.parse(text)), [], text)
        for text in STARS_ILL:
            self.assertEqual(ill_starred(ast.parse(text)), [1], text)
        for path, tree in self.trees.items():
            self.assertEqual(ill_starred(tree), [], path)

    def test_what_is_not_taken_by_name(self):
        """A call of a thing in a table: it is given a name first; builtins are called, not handed on."""
        for path, tree in self.trees.items():
            called = {id(node.func) for node in ast.walk(tree) if isinstance(node, ast.Call)}
            asked = {id(node.args[1]) for node in ast.walk(tree) if isinstance(node, ast.Call) and len(node.args) == 2}
            for node in ast.walk(tree):
                if isinstance(node, ast.Call):
                    self.assertIsInstance(node.func, (ast.Name, ast.Attribute), (path, node.lineno))
                if isinstance(node, ast.Name) and node.id in ("len", "min", "max", "sum", "sorted", "any", "all", "range"):
                    self.assertTrue(id(node) in called or id(node) in asked, (path, node.lineno))

    def test_lists_and_dicts_at_module_level_are_only_looked_into(self):
        kept = {
            node.targets[0].id for tree in self.trees.values() for node in tree.body
            if isinstance(node, ast.Assign) and isinstance(node.value, (ast.Dict, ast.List))
        }
        self.assertIn("OPS", kept)
        for path, tree in self.trees.items():
            inner = {
                id(part) for node in ast.walk(tree) if isinstance(node, ast.Assign) and node in tree.body
                for part in ast.walk(node.value)
            }
            well = set()
            for node in ast.walk(tree):
                if isinstance(node, ast.Subscript):
                    well.add(id(node.value))
                if isinstance(node, ast.Compare):
                    well |= {id(part) for part in node.comparators}
                if isinstance(node, (ast.For, ast.comprehension)):
                    well.add(id(node.iter))
                if isinstance(node, ast.Call) and isinstance(node.func, ast.Name) and node.func.id in ("list", "dict", "len", "sorted"):
                    well |= {id(part) for part in node.args}
            for node in ast.walk(tree):
                if isinstance(node, ast.Name) and node.id in kept and isinstance(node.ctx, ast.Load):
                    self.assertTrue(id(node) in well | inner, (path, node.lineno))

    def test_no_two_files_import_from_each_other(self):
        near = {}
        for path, tree in self.trees.items():
            name = ".".join(("comeright",) + path.relative_to(TOP).with_suffix("").parts)
            near[name] = {node.module for node in tree.body if isinstance(node, ast.ImportFrom)}
        while near:
            free = [name for name in near if not near[name] & set(near)]
            self.assertNotEqual(free, [], sorted(near))
            near = {name: near[name] for name in near if name not in free}
