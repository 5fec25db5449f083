"""The rules of ../shared/LANGUAGE.md that a plain look at the files can tell."""

import ast
import builtins
import pathlib
import unittest

ROOT = pathlib.Path(__file__).resolve().parent.parent
FILES = sorted((ROOT / "forkpolls").rglob("*.py"))

BUILTINS = {
    "len", "range", "enumerate", "zip", "min", "max", "sum", "abs", "sorted", "reversed", "int", "str", "bool", "list",
    "tuple", "dict", "set", "isinstance", "ord", "repr", "any", "all", "divmod", "ValueError", "TypeError", "KeyError",
    "IndexError", "RuntimeError", "classmethod", "property",
}

LIBRARY = {"heapq", "math", "itertools", "collections"}

DUNDERS = {
    "__init__", "__eq__", "__str__", "__len__", "__getitem__", "__iter__", "__enter__", "__exit__",
}

BARRED = (ast.Global, ast.AsyncFunctionDef, ast.Import)

# Where a class has `__eq__`, these take lists (L7).
TAKE_LISTS = {"any", "all", "min", "max", "sum", "sorted"}

# No names of variables, functions, classes, attributes or parameters (L17).
NO_NAMES = {
    "register", "mro", "elements", "open", "input", "law", "version_info", "with_traceback", "add_note", "exec", "eval", "type",
    "id", "vars", "dir", "compile", "globals", "locals", "exit", "quit", "help", "os", "sys", "gc",
}


def nodes():
    """Return a list of the files and all parts of their syntax trees."""
    return [(path, node) for path in FILES for node in ast.walk(ast.parse(path.read_text("utf-8")))]


def has_star(tree):
    """Return whether `*` or `**` stands anywhere in a tree."""
    return any(isinstance(node, ast.Starred) or isinstance(node, ast.keyword) and node.arg is None
               or isinstance(node, ast.Dict) and None in node.keys for node in ast.walk(tree))


def barred_stars(tree):
    """Return the lines where a star stands in an index or a set literal, or before a generator expression."""
    found = []
    for node in ast.walk(tree):
        if isinstance(node, ast.Subscript) and has_star(node.slice):
            found.append(node.lineno)
        elif isinstance(node, ast.Set) and any(isinstance(item, ast.Starred) for item in node.elts):
            found.append(node.lineno)
        elif isinstance(node, ast.Starred) and isinstance(node.value, ast.GeneratorExp):
            found.append(node.lineno)
    return found


def bound_names(tree):
    """Return all names that a tree binds, at whatever depth."""
    found = {node.id for node in ast.walk(tree) if isinstance(node, ast.Name) and isinstance(node.ctx, ast.Store)}
    found |= {node.arg for node in ast.walk(tree) if isinstance(node, ast.arg)}
    found |= {node.name for node in ast.walk(tree) if isinstance(node, (ast.FunctionDef, ast.ClassDef))}
    found |= {node.name for node in ast.walk(tree) if isinstance(node, ast.ExceptHandler) and node.name}
    for node in ast.walk(tree):
        if isinstance(node, ast.ImportFrom):
            found |= {alias.name for alias in node.names}
    return found


def local_names(tree):
    """Return all names of parameters and of variables in functions."""
    found = set()
    for node in ast.walk(tree):
        if isinstance(node, ast.FunctionDef):
            found |= {one.arg for one in ast.walk(node) if isinstance(one, ast.arg)}
            found |= {one.id for one in ast.walk(node) if isinstance(one, ast.Name) and isinstance(one.ctx, ast.Store)}
    return found


class Language(unittest.TestCase):
    def test_sizes_and_characters(self):
        self.assertIn(ROOT / "forkpolls" / "__init__.py", FILES)
        for path in FILES:
            text = path.read_text("utf-8")
            self.assertTrue(all(" " <= letter <= "~" or letter == "\n" for letter in text), path)
            self.assertLessEqual(len(text.splitlines()), 399, path)
            self.assertLessEqual(max(map(len, text.splitlines())), 120, path)

    def test_functions_are_small(self):
        for path, node in nodes():
            if isinstance(node, ast.FunctionDef):
                self.assertLessEqual(node.end_lineno - node.lineno + 1, 40, (path, node.name))

    def test_the_package_holds_only_its_files(self):
        held = [path for path in (ROOT / "forkpolls").rglob("*") if "__pycache__" not in path.parts and not path.is_dir()]
        self.assertEqual(sorted(held), FILES)

    def test_imports(self):
        for path, node in nodes():
            if isinstance(node, ast.ImportFrom):
                self.assertEqual(node.level, 0, path)
                self.assertTrue(node.module.startswith("forkpolls.") or node.module in LIBRARY, (path, node.module))
                self.assertTrue(all(alias.asname is None and alias.name != "*" for alias in node.names), path)

    def test_names_are_read_from_the_file_that_binds_them(self):
        for path in FILES:
            tree = ast.parse(path.read_text("utf-8"))
            known = bound_names(tree) | BUILTINS
            for node in ast.walk(tree):
                if isinstance(node, ast.Name):
                    self.assertIn(node.id, known, path)
            for name in bound_names(tree):
                self.assertTrue(name in DUNDERS or not name.startswith("__"), (path, name))

    def test_barred_statements_and_expressions(self):
        for path, node in nodes():
            self.assertNotIsInstance(node, BARRED, (path, getattr(node, "lineno", 0)))
            if isinstance(node, ast.Constant):
                self.assertNotIsInstance(node.value, (float, complex), path)
            if isinstance(node, ast.BinOp):
                self.assertNotIsInstance(node.op, ast.Div, path)

    def test_no_star_in_an_index_or_a_set_or_over_a_generator(self):
        for path in FILES:
            self.assertEqual(barred_stars(ast.parse(path.read_text("utf-8"))), [], path)

    def test_barred_stars_are_seen(self):
        for text in (
                "d[(*a, *b)] = c", "c = d[(*a, *b)]", "del d[(*a,)]", "d[*a]", "d[*a, 1]", "d[(1, (*a,))]", "d[0][(*a, 1)] += 1",
                "d[1:max(*a)]", "d[f(**a)]", "d[len({**a})]", "[d[(*a, b)] for b in c]", "x = {*a}", "x = {1, *a}",
                "x = [*(b for b in a)]", "f(*(b for b in a))"):
            self.assertEqual(barred_stars(ast.parse(text)), [1], text)
        for text in (
                "e = (*a, *b)\nd[e] = c", "d[a] = [(*b, *c) for e in d]", "x = [*a, 1]", "x = (*d[a], *b)", "x = *a, 1",
                "x = {**a, 'a': 1}", "f(*a)", "f(**a)", "a, *b = c", "x = {1, 2}", "[*[b for b in a]]", "d[1:2]"):
            self.assertEqual(barred_stars(ast.parse(text)), [], text)

    def test_lists_instead_of_generator_expressions(self):
        for path, node in nodes():
            if isinstance(node, ast.Call) and isinstance(node.func, ast.Name) and node.func.id in TAKE_LISTS:
                self.assertFalse(any(isinstance(arg, ast.GeneratorExp) for arg in node.args), (path, node.lineno))

    def test_locals_have_names_of_their_own(self):
        for path in FILES:
            tree = ast.parse(path.read_text("utf-8"))
            # Examples that were run leave their last result among the builtins.
            taken = (set(dir(builtins)) - {"_"}) | NO_NAMES
            taken |= {alias.name for node in tree.body if isinstance(node, ast.ImportFrom) for alias in node.names}
            taken |= {node.name for node in tree.body if isinstance(node, ast.ClassDef)}
            self.assertEqual(local_names(tree) & taken, set(), path)
            named = [node.name for node in tree.body if isinstance(node, (ast.FunctionDef, ast.ClassDef))]
            self.assertEqual(len(named), len(set(named)), path)
            self.assertEqual(set(named) & (set(dir(builtins)) | NO_NAMES), set(), path)

    def test_no_name_is_a_method_and_an_attribute(self):
        methods = {
            one.name for _, node in nodes() if isinstance(node, ast.ClassDef) for one in node.body if isinstance(one, ast.FunctionDef)}
        assigned = {node.attr for _, node in nodes() if isinstance(node, ast.Attribute) and isinstance(node.ctx, ast.Store)}
        self.assertEqual(methods & assigned, set())
        self.assertEqual((methods | assigned) & NO_NAMES, set())

    def test_is_stands_beside_none(self):
        for path, node in nodes():
            if isinstance(node, ast.Compare):
                for kind, other in zip(node.ops, node.comparators):
                    if isinstance(kind, (ast.Is, ast.IsNot)):
                        self.assertTrue(isinstance(other, ast.Constant) and other.value is None, (path, node.lineno))

    def test_modules_hold_only_definitions(self):
        for path in FILES:
            for node in ast.parse(path.read_text("utf-8")).body:
                docstring = isinstance(node, ast.Expr) and isinstance(node.value, ast.Constant)
                kinds = (ast.ImportFrom, ast.FunctionDef, ast.ClassDef, ast.Assign)
                self.assertTrue(docstring or isinstance(node, kinds), (path, node.lineno))


if __name__ == "__main__":
    unittest.main()
