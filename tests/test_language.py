"""The package keeps to the subset of the language: what of its rules can be seen by reading the code."""

import ast
import builtins
import pathlib
import re
import unittest

FOLDER = pathlib.Path(__file__).resolve().parent.parent / "glassladder"
FILES = sorted(FOLDER.glob("*.py"))
SOURCES = {path.stem: path.read_text(encoding="utf-8") for path in FILES}
TREES = {stem: ast.parse(source) for stem, source in SOURCES.items()}
FUNCTIONS = (ast.FunctionDef, ast.Lambda)
BUILTINS = """len range enumerate zip min max sum abs sorted reversed int str bool bytes list tuple dict set
frozenset isinstance ord repr any all divmod iter next Exception ValueError TypeError KeyError IndexError LookupError
ZeroDivisionError ArithmeticError OverflowError RuntimeError NotImplementedError AttributeError StopIteration
NotImplemented super property staticmethod classmethod""".split()
METHODS = """
append clear copy count endswith extend find get index insert isalnum isalpha isdigit islower isspace
isupper items join keys ljust lower lstrip partition pop remove replace reverse rfind rjust rpartition
rsplit rstrip setdefault split splitlines startswith strip update upper values zfill bit_length title
capitalize swapcase casefold center expandtabs removeprefix removesuffix rindex isascii isdecimal
isnumeric istitle isidentifier isprintable add discard
""".split()
DUNDERS = "__init__ __eq__ __repr__ __str__ __len__".split()
BARRED_WORDS = """type typing typing_extensions enum Enum IntEnum StrEnum Flag IntFlag Generic Protocol ABC ABCMeta
namedtuple NamedTuple TypedDict TYPE_CHECKING abstractmethod""".split()
BARRED_NAMES = "register mro elements open input law version_info with_traceback add_note".split()
STATEMENTS = (
    ast.Assign, ast.AugAssign, ast.AnnAssign, ast.If, ast.While, ast.For, ast.Return, ast.Break, ast.Continue, ast.Pass,
    ast.Raise, ast.Assert, ast.Delete, ast.Nonlocal, ast.Try, ast.Expr, ast.FunctionDef, ast.ClassDef, ast.ImportFrom,
)


def nodes(kind=ast.AST):
    for stem, tree in TREES.items():
        for node in ast.walk(tree):
            if isinstance(node, kind):
                yield f"{stem}:{getattr(node, 'lineno', 0)}", node


def defined_in(tree):
    names = [node.name for node in tree.body if isinstance(node, (ast.FunctionDef, ast.ClassDef))]
    return names + [node.targets[0].id for node in tree.body if isinstance(node, ast.Assign)]


def imports_of(tree):
    return [node for node in tree.body if isinstance(node, ast.ImportFrom)]


def bound_names():
    for where, node in nodes():
        if isinstance(node, ast.Name) and isinstance(node.ctx, ast.Store):
            yield where, node.id
        elif isinstance(node, ast.arg):
            yield where, node.arg
        elif isinstance(node, (ast.FunctionDef, ast.ClassDef)):
            yield where, node.name
        elif isinstance(node, ast.ExceptHandler) and node.name:
            yield where, node.name


def methods():
    return {(node.name, one.name) for where, node in nodes(ast.ClassDef) for one in node.body
            if isinstance(one, ast.FunctionDef)}


def stored_attributes():
    return {node.attr for where, node in nodes(ast.Attribute) if isinstance(node.ctx, ast.Store)}


class Files(unittest.TestCase):
    def test_names_of_files(self):
        for path in FOLDER.iterdir():
            if path.name != "__pycache__":
                self.assertRegex(path.name, r"\A(__init__|[a-z][a-z0-9_]*)\.py\Z")
        self.assertLessEqual(len(FILES), 100)

    def test_sizes_and_signs(self):
        for stem, source in SOURCES.items():
            rows = source.split("\n")
            self.assertLessEqual(len(rows) - 1, 399, stem)
            self.assertLessEqual(max(map(len, rows)), 120, stem)
            self.assertRegex(source, r"\A[ -~\n]*\Z", stem)

    def test_sizes_of_functions(self):
        for where, node in nodes(ast.FunctionDef):
            self.assertLessEqual(node.end_lineno - node.lineno + 1, 40, where)

    def test_barred_words(self):
        for stem, source in SOURCES.items():
            for word in BARRED_WORDS:
                self.assertIsNone(re.search(rf"\b{word}\b", source), (stem, word))
            for word in ("dataclass", "overload", "contextmanager"):
                self.assertNotIn(word, source, stem)


class Modules(unittest.TestCase):
    def test_imports(self):
        for where, node in nodes((ast.Import, ast.ImportFrom)):
            self.assertIsInstance(node, ast.ImportFrom, where)
            self.assertEqual(node.level, 0, where)
            self.assertRegex(node.module, r"\Aglassladder\.[a-z_]+\Z", where)
            for alias in node.names:
                self.assertIsNone(alias.asname, where)
                self.assertIn(alias.name, defined_in(TREES[node.module.split(".")[1]]), where)

    def test_all_that_is_imported_is_used(self):
        for stem, tree in TREES.items():
            used = {node.id for node in ast.walk(tree) if isinstance(node, ast.Name)}
            for node in imports_of(tree):
                for alias in node.names:
                    self.assertIn(alias.name, used, stem)

    def test_no_ring_of_imports(self):
        leads = {stem: {node.module.split(".")[1] for node in imports_of(tree)} for stem, tree in TREES.items()}
        while leads:
            free = [stem for stem in leads if not leads[stem] & set(leads)]
            self.assertTrue(free, leads)
            for stem in free:
                del leads[stem]

    def test_module_level(self):
        for stem, tree in TREES.items():
            for at, node in enumerate(tree.body):
                if isinstance(node, ast.Expr):
                    self.assertEqual((at, isinstance(node.value, ast.Constant)), (0, True), stem)
                elif isinstance(node, ast.Assign):
                    self.assertIsInstance(node.targets[0], ast.Name, stem)
                    self.assertFalse([one for one in ast.walk(node.value) if isinstance(one, ast.Call)], stem)
                else:
                    self.assertIsInstance(node, (ast.ImportFrom, ast.FunctionDef, ast.ClassDef), stem)
            bound = defined_in(tree) + [alias.name for node in imports_of(tree) for alias in node.names]
            self.assertEqual(len(bound), len(set(bound)), stem)

    def test_no_local_name_is_an_import_or_a_class(self):
        for stem, tree in TREES.items():
            taken = {alias.name for node in imports_of(tree) for alias in node.names}
            taken |= {node.name for node in tree.body if isinstance(node, ast.ClassDef)}
            for node in ast.walk(tree):
                if isinstance(node, ast.arg):
                    self.assertNotIn(node.arg, taken, (stem, node.lineno))
                if isinstance(node, ast.Name) and isinstance(node.ctx, ast.Store):
                    self.assertNotIn(node.id, taken, (stem, node.lineno))


class Names(unittest.TestCase):
    def test_bound_names(self):
        taken = set(dir(builtins))
        for where, name in bound_names():
            self.assertNotIn(name, BARRED_NAMES, where)
            if name not in DUNDERS:
                self.assertFalse(name.startswith("_"), (where, name))
                self.assertNotIn(name, taken, where)

    def test_builtins(self):
        bound = {name for where, name in bound_names()}
        for stem, tree in TREES.items():
            known = set(defined_in(tree)) | bound | set(BUILTINS)
            known |= {alias.name for node in imports_of(tree) for alias in node.names}
            for node in ast.walk(tree):
                if isinstance(node, ast.Name):
                    self.assertIn(node.id, known, (stem, node.lineno))

    def test_methods_and_attributes(self):
        own, stored = {name for owner, name in methods()}, stored_attributes()
        self.assertEqual(own & stored, set())
        for where, node in nodes(ast.Attribute):
            self.assertIn(node.attr, own | stored | set(METHODS), where)
        for owner, name in methods():
            self.assertTrue(name in DUNDERS or not name.startswith("_"), (owner, name))

    def test_no_method_twice(self):
        for where, node in nodes(ast.ClassDef):
            names = [one.name for one in node.body if isinstance(one, ast.FunctionDef)]
            self.assertEqual(len(names), len(set(names)), where)


class Code(unittest.TestCase):
    def test_statements(self):
        for where, node in nodes(ast.stmt):
            self.assertIsInstance(node, STATEMENTS, where)
        ahead = {one for tree in TREES.values() for one in tree.body}
        for where, node in nodes(ast.ImportFrom):
            self.assertIn(node, ahead, where)
        for where, node in nodes(ast.FunctionDef):
            self.assertEqual(node.decorator_list, [], where)
            self.assertEqual(node.args.posonlyargs, [], where)

    def test_expressions(self):
        for where, node in nodes():
            self.assertNotIsInstance(node, (ast.Div, ast.Await, ast.GeneratorExp, ast.Yield, ast.YieldFrom), where)
            if isinstance(node, ast.Constant):
                self.assertNotIsInstance(node.value, (float, complex), where)
                self.assertFalse(isinstance(node.value, str) and "%" in node.value, where)
            if isinstance(node, ast.Compare):
                for sign, right in zip(node.ops, node.comparators):
                    if isinstance(sign, (ast.Is, ast.IsNot)):
                        self.assertIn(ast.unparse(right), ("None", "True", "False"), where)
            if isinstance(node, ast.BinOp) and isinstance(node.op, ast.Pow):
                self.assertIsInstance(node.right, ast.Constant, where)

    def test_comprehensions_stand_in_functions(self):
        kinds = (ast.ListComp, ast.SetComp, ast.DictComp)
        for stem, tree in TREES.items():
            inside = {one for node in ast.walk(tree) if isinstance(node, FUNCTIONS) for one in ast.walk(node)}
            for node in ast.walk(tree):
                if isinstance(node, kinds):
                    self.assertIn(node, inside, stem)

    def test_errors(self):
        own = set(defined_in(TREES["errors"]))
        for where, node in nodes(ast.Raise):
            if node.exc is not None:
                self.assertIsInstance(node.exc, ast.Call, where)
                self.assertIn(node.exc.func.id, own, where)
        for where, node in nodes(ast.ExceptHandler):
            for one in node.type.elts if isinstance(node.type, ast.Tuple) else [node.type]:
                self.assertIn(one.id, own | {"KeyError", "ZeroDivisionError"}, where)

    def test_finally(self):
        for where, node in nodes(ast.Try):
            for one in node.finalbody:
                self.assertRegex(ast.unparse(one), r"\Aself\.[a-z_]+\.append\('[a-z]+'\)\Z", where)

    def test_views_are_iterated_at_once(self):
        for where, node in nodes(ast.Assign):
            value = node.value
            if isinstance(value, ast.Call) and isinstance(value.func, ast.Name):
                self.assertNotIn(value.func.id, ("zip", "enumerate", "reversed", "range"), where)
            if isinstance(value, ast.Call) and isinstance(value.func, ast.Attribute):
                self.assertNotIn(value.func.attr, ("items", "keys", "values"), where)


if __name__ == "__main__":
    unittest.main()
