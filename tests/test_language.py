"""The rules of the language for this program (LANGUAGE.md), as far as a walk through the code can see them."""

import ast
import builtins
import re
import unittest
from pathlib import Path

PACKAGE = Path(__file__).resolve().parent.parent / "pairsigns"
FILES = sorted(PACKAGE.glob("*.py"))
ALLOWED_BUILTINS = set("""len range enumerate zip min max sum abs sorted reversed int str bool bytes list tuple dict set frozenset
    isinstance ord repr any all divmod pow iter next getattr hasattr setattr property staticmethod classmethod super map
    Exception ValueError TypeError KeyError IndexError LookupError ZeroDivisionError ArithmeticError OverflowError RuntimeError
    NotImplementedError AttributeError StopIteration NotImplemented""".split())
ALLOWED_DUNDERS = set("""__init__ __eq__ __repr__ __str__ __len__ __enter__ __exit__ __call__ __iter__ __contains__ __lt__ __le__
    __gt__ __ge__ __bool__ __getitem__ __setitem__ __add__ __sub__""".split())
ALLOWED_METHODS = set("""append clear copy count endswith extend find get index insert isalnum isalpha isdigit islower isspace isupper
    items join keys ljust lower lstrip partition pop remove replace reverse rfind rjust rpartition rsplit rstrip setdefault split
    splitlines startswith strip update upper values zfill bit_length title capitalize swapcase casefold center expandtabs
    removeprefix removesuffix rindex isascii isdecimal isnumeric istitle isidentifier isprintable add discard""".split())
AT_ONCE = ("range", "zip", "enumerate", "reversed")
TAKERS = ("list", "tuple", "dict", "sorted", "sum", "any", "all", "enumerate", "zip", "min", "max", "reversed", "len")
BARRED = set("type typing enum Enum Flag Generic Protocol ABC namedtuple NamedTuple mro elements open input law register".split())
LIBRARY = ("heapq", "math", "itertools", "collections")


def tree_of(file):
    """The tree of a file, in which each node knows the one around it."""
    tree = ast.parse(file.read_text(encoding="utf-8"))
    for node in ast.walk(tree):
        for part in ast.iter_child_nodes(node):
            part.around = node
    return tree


def nodes(kind):
    """All nodes of a kind, with the name of the file and the line."""
    return [(f"{file.name}:{getattr(node, 'lineno', 0)}", node)
            for file in FILES for node in ast.walk(tree_of(file)) if isinstance(node, kind)]


def calls_of(*names):
    return [(where, node) for where, node in nodes(ast.Call) if isinstance(node.func, ast.Name) and node.func.id in names]


def is_call_of(node, names):
    return isinstance(node, ast.Call) and isinstance(node.func, ast.Name) and node.func.id in names


class FilesOfThePackage(unittest.TestCase):
    def test_one_folder_of_plain_files(self):
        self.assertTrue((PACKAGE / "__init__.py").is_file())
        for path in PACKAGE.iterdir():
            if path.name != "__pycache__":
                self.assertRegex(path.name, r"\A(__init__|__main__|[a-z][a-z0-9_]*)\.py\Z")
                self.assertNotIn(path.stem, vars(builtins))

    def test_characters_and_sizes(self):
        for file in FILES:
            text = file.read_text(encoding="utf-8")
            self.assertIsNone(re.search(r"[^ -~\n]", text), file.name)
            lines = text.split("\n")
            self.assertLessEqual(len(lines), 399, file.name)
            self.assertLessEqual(max(len(line) for line in lines), 120, file.name)

    def test_functions_are_small(self):
        for where, node in nodes(ast.FunctionDef):
            self.assertLessEqual(node.end_lineno - node.lineno + 1, 40, where)

    def test_module_level(self):
        for file in FILES:
            for part in tree_of(file).body:
                self.assertIsInstance(part, (ast.Expr, ast.ImportFrom, ast.FunctionDef, ast.ClassDef, ast.Assign), file.name)
                if isinstance(part, ast.Expr):
                    self.assertIsInstance(part.value.value, str)

    def test_imports(self):
        sources = {}
        for file in FILES:
            for part in ast.walk(tree_of(file)):
                self.assertNotIsInstance(part, ast.Import)
                if isinstance(part, ast.ImportFrom):
                    self.assertEqual(part.level, 0)
                    self.check_import(file, part)
                    sources.setdefault(file.stem, set()).add(part.module.removeprefix("pairsigns."))
        ready = set(LIBRARY)
        while any(file not in ready and sources.get(file, set()) <= ready for file in [path.stem for path in FILES]):
            ready |= {path.stem for path in FILES if sources.get(path.stem, set()) <= ready}
        self.assertEqual({file.stem for file in FILES} - ready, set(), "files import from each other")

    def check_import(self, file, part):
        if part.module in LIBRARY:
            return
        source = PACKAGE / (part.module.removeprefix("pairsigns.") + ".py")
        self.assertTrue(part.module.startswith("pairsigns.") and source.is_file(), part.module)
        defined = {node.name for node in tree_of(source).body if isinstance(node, (ast.FunctionDef, ast.ClassDef))}
        defined |= {node.targets[0].id for node in tree_of(source).body if isinstance(node, ast.Assign)}
        used = [node.id for node in ast.walk(tree_of(file)) if isinstance(node, ast.Name)]
        for alias in part.names:
            self.assertIn(alias.name, defined, file.name)
            self.assertIn(alias.name, used, f"{file.name} does not use {alias.name}")


class NamesOfThePackage(unittest.TestCase):
    def test_builtins(self):
        for where, node in nodes(ast.Name):
            if node.id in vars(builtins):
                self.assertIn(node.id, ALLOWED_BUILTINS, where)
                self.assertIsInstance(node.ctx, ast.Load, where)

    def test_no_name_of_a_builtin_and_no_barred_word(self):
        bound = [(where, node.name) for where, node in nodes((ast.FunctionDef, ast.ClassDef))]
        bound += [(where, node.arg) for where, node in nodes(ast.arg)]
        bound += [(where, node.attr) for where, node in nodes(ast.Attribute)]
        bound += [(where, node.id) for where, node in nodes(ast.Name) if node.id not in ALLOWED_BUILTINS]
        for where, name in bound:
            self.assertNotIn(name, BARRED, where)
            self.assertNotIn(name, vars(builtins), where)
            self.assertTrue(re.fullmatch(r"_?[A-Za-z][A-Za-z0-9_]*|_", name) or name in ALLOWED_DUNDERS, f"{where} {name}")

    def test_imports_and_classes_are_not_hidden(self):
        for file in FILES:
            tree = tree_of(file)
            taken = {alias.name for part in tree.body if isinstance(part, ast.ImportFrom) for alias in part.names}
            taken |= {part.name for part in tree.body if isinstance(part, ast.ClassDef)}
            for node in ast.walk(tree):
                name = node.arg if isinstance(node, ast.arg) else node.id if isinstance(node, ast.Name) else None
                if isinstance(node, ast.arg) or (name and isinstance(node.ctx, ast.Store)):
                    self.assertNotIn(name, taken, file.name)

    def test_methods_that_are_called(self):
        own = {node.name for _, node in nodes(ast.FunctionDef)}
        for where, node in nodes(ast.Call):
            if isinstance(node.func, ast.Attribute):
                self.assertIn(node.func.attr, own | ALLOWED_METHODS, where)
                self.assertFalse(node.keywords and node.func.attr not in own, where)

    def test_names_of_properties_methods_and_attributes_differ(self):
        functions = [(where, node) for where, node in nodes(ast.FunctionDef) if isinstance(node.around, ast.ClassDef)]
        properties = {node.name for _, node in functions if [part for part in node.decorator_list if ast.unparse(part) == "property"]}
        methods = {node.name for _, node in functions} - properties
        for where, node in functions:
            self.assertFalse(node.name in properties and not node.decorator_list, where)
        for where, node in nodes(ast.Attribute):
            if isinstance(node.ctx, ast.Store):
                self.assertNotIn(node.attr, properties | methods, where)

    def test_generators(self):
        functions = [node for _, node in nodes(ast.FunctionDef)]
        names = [node.name for node in functions if [part for part in ast.walk(node) if isinstance(part, (ast.Yield, ast.YieldFrom))]]
        for name in names:
            self.assertEqual([node.name for node in functions].count(name), 1, name)
        for where, node in calls_of(*names):
            around = node.around
            taken = is_call_of(around, TAKERS[:8]) or isinstance(around, ast.YieldFrom) or (
                isinstance(around, (ast.For, ast.comprehension)) and around.iter is node)
            self.assertTrue(taken, where)
            for part in node.args:
                self.assertIsInstance(part, (ast.Name, ast.Attribute, ast.Constant, ast.Tuple), where)

    def test_lists_and_dicts_at_module_level_are_only_read(self):
        for file in FILES:
            kept = {part.targets[0].id for part in tree_of(file).body
                    if isinstance(part, ast.Assign) and isinstance(part.value, (ast.Dict, ast.List))}
            for node in ast.walk(tree_of(file)):
                if isinstance(node, ast.Name) and node.id in kept and isinstance(node.ctx, ast.Load):
                    around = node.around
                    self.assertIsInstance(around, (ast.Subscript, ast.Compare, ast.For, ast.comprehension, ast.Attribute), f"{file.name}:{node.lineno}")

    def test_stars_stand_before_names(self):
        for where, node in nodes(ast.Call):
            for part in node.args:
                if isinstance(part, ast.Starred):
                    self.assertIsInstance(part.value, (ast.Name, ast.Attribute, ast.Tuple, ast.List), where)

    def test_decorators_and_annotations(self):
        for where, node in nodes((ast.FunctionDef, ast.ClassDef)):
            for decorator in node.decorator_list:
                self.assertIn(ast.unparse(decorator), ("property", "classmethod", "staticmethod"), where)


class FormsOfThePackage(unittest.TestCase):
    def test_statements_that_are_not_used(self):
        barred = (ast.AsyncFunctionDef, ast.AsyncFor, ast.AsyncWith, ast.Await, ast.TryStar)
        self.assertEqual([where for where, _ in nodes(barred)], [])

    def test_lists_instead_of_generator_expressions(self):
        # The package has classes with __eq__, so these take lists.
        for where, node in nodes(ast.GeneratorExp):
            self.assertFalse(is_call_of(node.around, ("any", "all", "min", "max", "sum", "sorted")), where)

    def test_no_float_no_division_no_percent_sign(self):
        for where, node in nodes(ast.Constant):
            self.assertNotIsInstance(node.value, (float, complex), where)
            if isinstance(node.value, str) and not isinstance(node.around, ast.Expr):
                self.assertNotIn("%", node.value, where)
        self.assertEqual([where for where, node in nodes(ast.BinOp) if isinstance(node.op, ast.Div)], [])

    def test_is_stands_with_none_true_and_false(self):
        for where, node in nodes(ast.Compare):
            for operator, right in zip(node.ops, node.comparators):
                if isinstance(operator, (ast.Is, ast.IsNot)):
                    self.assertIsInstance(right, ast.Constant, where)

    def test_what_is_iterated_at_once(self):
        for where, node in calls_of(*AT_ONCE):
            around = node.around
            taken = is_call_of(around, TAKERS) or (isinstance(around, (ast.For, ast.comprehension)) and around.iter is node)
            self.assertTrue(taken, where)

    def test_sets_are_not_iterated(self):
        for where, node in nodes((ast.Set, ast.SetComp)) + calls_of("set"):
            around = node.around
            compared = isinstance(around, (ast.Compare, ast.BinOp)) or (isinstance(around, ast.Assign) and around.value is node)
            self.assertTrue(compared or is_call_of(around, ("sorted", "len")), where)

    def test_returns_of_str_repr_and_len(self):
        for where, node in nodes(ast.FunctionDef):
            if node.name in ("__str__", "__repr__", "__len__"):
                allowed = ("len",) if node.name == "__len__" else ("str", "repr")
                value = node.body[-1].value
                self.assertTrue(is_call_of(value, allowed) or (isinstance(value, ast.JoinedStr) and allowed != ("len",)), where)

    def test_equality_asks_for_its_class_first(self):
        for where, node in nodes(ast.FunctionDef):
            if node.name == "__eq__":
                self.assertTrue(ast.unparse(node.body[-1]).startswith(f"return isinstance(other, {node.around.name}) and "), where)

    def test_calls_pass_lists_instead_of_ranges_to_own_functions(self):
        for where, node in nodes(ast.Call):
            if isinstance(node.func, ast.Name) and node.func.id not in vars(builtins):
                self.assertFalse([part for part in node.args if is_call_of(part, AT_ONCE)], where)


if __name__ == "__main__":
    unittest.main()
