"""Some rules of LANGUAGE.md, as far as the code itself shows them.

This finds slips; it does not replace reading the rules.
"""

import ast
import re
import unittest
from pathlib import Path

PACKAGE = Path(__file__).resolve().parent.parent / "partnotes"

BUILTINS = set(
    "len range enumerate zip min max sum abs sorted reversed int str bool bytes list tuple dict set isinstance ord "
    "repr any all divmod iter next property staticmethod classmethod super Exception ValueError TypeError KeyError "
    "IndexError LookupError ZeroDivisionError ArithmeticError OverflowError RuntimeError NotImplementedError "
    "AttributeError StopIteration NotImplemented".split()
)
METHODS = set(
    "append clear copy count endswith extend find get index insert isalnum isalpha isdigit islower isspace isupper "
    "items join keys ljust lower lstrip partition pop remove replace reverse rfind rjust rpartition rsplit rstrip "
    "setdefault split splitlines startswith strip update upper values zfill bit_length add discard title capitalize "
    "swapcase casefold removeprefix removesuffix rindex isascii isdecimal".split()
)
DUNDERS = set(
    "__init__ __eq__ __repr__ __str__ __len__ __enter__ __exit__ __call__ __lt__ __le__ __gt__ __ge__ __ne__ "
    "__and__ __or__ __xor__ __lshift__ __rshift__ __add__ __sub__ __mul__ __bool__ __contains__".split()
)
BARRED_WORDS = set(
    "type typing typing_extensions enum Enum IntEnum StrEnum Flag IntFlag Generic Protocol ABC ABCMeta namedtuple "
    "NamedTuple TypedDict TYPE_CHECKING abstractmethod".split()
)
BARRED_NAMES = set(
    "register mro elements open input law version_info with_traceback add_note attrgetter breakpoint builtins compile "
    "copyright credits delattr dir eval exec exit gc getattr globals hasattr help id importlib license locals "
    "methodcaller os quit setattr type vars".split()
)
BARRED_PARTS = ("dataclass", "overload", "contextmanager")
# A parameter, a variable or a function would hide these.
HIDDEN = (BUILTINS | set("map filter hash format min max next round print pow object bin hex oct chr float".split()))


def files():
    return sorted(PACKAGE.glob("*.py"))


def trees():
    return [(path.name, ast.parse(path.read_text(encoding="utf-8"))) for path in files()]


def nodes(kind):
    return [(name, node) for name, tree in trees() for node in ast.walk(tree) if isinstance(node, kind)]


def bound(tree):
    """The names that a file binds anywhere."""
    names = []
    for node in ast.walk(tree):
        if isinstance(node, (ast.FunctionDef, ast.ClassDef)):
            names.append(node.name)
        elif isinstance(node, ast.arg):
            names.append(node.arg)
        elif isinstance(node, ast.Name) and not isinstance(node.ctx, ast.Load):
            names.append(node.id)
        elif isinstance(node, ast.alias):
            names.append(node.asname or node.name)
        elif isinstance(node, ast.ExceptHandler) and node.name:
            names.append(node.name)
    return names


def methods_and_attributes():
    """The names of the methods, of the properties, and of the attributes that are assigned, in all classes."""
    methods, properties, attributes = set(), set(), set()
    for name, one in nodes(ast.ClassDef):
        for function in [node for node in one.body if isinstance(node, ast.FunctionDef)]:
            marks = [mark.id for mark in function.decorator_list if isinstance(mark, ast.Name)]
            (properties if "property" in marks else methods).add(function.name)
    for name, node in nodes(ast.Attribute):
        if isinstance(node.ctx, ast.Store):
            attributes.add(node.attr)
    return methods, properties, attributes


def is_plain(node):
    """Whether something is plainly a number, a string, a set, or a list of these."""
    if isinstance(node, ast.ListComp):
        return is_plain(node.elt)
    called = isinstance(node, ast.Call) and isinstance(node.func, ast.Name)
    return isinstance(node, ast.Constant) or called and node.func.id in ("set", "len", "str", "int")


class Files(unittest.TestCase):
    def test_the_folder_contains_nothing_else(self):
        for path in PACKAGE.iterdir():
            if path.name != "__pycache__":
                self.assertRegex(path.name, r"\A[a-z0-9_]+\.py\Z")

    def test_sizes(self):
        for path in files():
            lines = path.read_text(encoding="utf-8").split("\n")
            self.assertLessEqual(len(lines), 399, path.name)
            self.assertLessEqual(max(len(line) for line in lines), 120, path.name)
        for name, node in nodes(ast.FunctionDef):
            self.assertLessEqual(node.end_lineno - node.lineno + 1, 40, (name, node.name))

    def test_characters_and_words(self):
        for path in files():
            text = path.read_text(encoding="utf-8")
            self.assertRegex(text, r"\A[ -~\n]*\Z", path.name)
            self.assertEqual(BARRED_WORDS & set(re.findall(r"\w+", text)), set(), path.name)
            self.assertEqual([part for part in BARRED_PARTS if part in text], [], path.name)


class Statements(unittest.TestCase):
    def test_imports(self):
        earlier = {path.stem: ast.parse(path.read_text(encoding="utf-8")) for path in files()}
        for name, node in nodes((ast.Import, ast.ImportFrom)):
            self.assertIsInstance(node, ast.ImportFrom, name)
            self.assertEqual(node.level, 0, name)
            module = re.fullmatch(r"partnotes\.([a-z]+)", node.module).group(1)
            defined = [one.name for one in earlier[module].body if isinstance(one, (ast.FunctionDef, ast.ClassDef))]
            plain = [target.id for one in earlier[module].body if isinstance(one, ast.Assign) for target in one.targets]
            for one in node.names:
                self.assertIsNone(one.asname, name)
                self.assertIn(one.name, defined + plain, name)

    def test_module_level(self):
        for name, tree in trees():
            self.assertIsNotNone(ast.get_docstring(tree), name)
            for node in tree.body[1:]:
                self.assertIsInstance(node, (ast.ImportFrom, ast.FunctionDef, ast.ClassDef, ast.Assign), name)

    def test_statements_that_are_not_used(self):
        barred = (ast.Global, ast.AsyncFunctionDef, ast.Await, ast.Div, ast.AnnAssign)
        self.assertEqual([name for name, node in nodes(barred)], [])

    def test_is_stands_only_beside_none_true_and_false(self):
        for name, node in nodes(ast.Compare):
            for sign, right in zip(node.ops, node.comparators):
                if isinstance(sign, (ast.Is, ast.IsNot)):
                    self.assertIsInstance(right, ast.Constant, name)
                    self.assertIn(right.value, (None, True, False), name)

    def test_errors_are_created_on_the_spot(self):
        for name, node in nodes(ast.Raise):
            if node.exc is not None:
                self.assertIsInstance(node.exc, ast.Call, name)
                self.assertIsInstance(node.exc.func, ast.Name, name)

    def test_strings(self):
        for name, node in nodes(ast.Constant):
            if isinstance(node.value, str):
                self.assertNotIn("%", node.value, name)
            self.assertNotIsInstance(node.value, float, name)

    def test_any_and_all_take_lists(self):
        takers = ("any", "all", "min", "max", "sum", "sorted")
        for name, node in nodes(ast.Call):
            if isinstance(node.func, ast.Name) and node.func.id in takers:
                self.assertEqual([one for one in node.args if isinstance(one, ast.GeneratorExp)], [], name)

    def test_only_plain_things_are_sorted(self):
        """Leaves have an order of their own, which is none for sorting."""
        for name, node in nodes(ast.Call):
            if isinstance(node.func, ast.Name) and node.func.id in ("sorted", "min", "max"):
                self.assertTrue(node.keywords or any(is_plain(one) for one in node.args), (name, node.lineno))
            if isinstance(node.func, ast.Attribute):
                self.assertNotEqual(node.func.attr, "sort", name)

    def test_what_is_iterated_at_once(self):
        once = ("zip", "enumerate", "reversed", "range", "items", "keys", "values")
        takers = ("list", "tuple", "dict", "sorted", "sum", "enumerate", "zip")
        for name, tree in trees():
            allowed = []
            for node in ast.walk(tree):
                if isinstance(node, (ast.For, ast.comprehension)):
                    allowed.append(node.iter)
                if isinstance(node, ast.Call) and isinstance(node.func, ast.Name) and node.func.id in takers:
                    allowed += node.args[:1]
            for node in [node for node in ast.walk(tree) if isinstance(node, ast.Call)]:
                called = node.func.id if isinstance(node.func, ast.Name) else getattr(node.func, "attr", "")
                self.assertTrue(called not in once or node in allowed, (name, node.lineno))

    def test_dicts_of_a_module_are_only_read(self):
        for name, tree in trees():
            tables = [node.targets[0].id for node in tree.body
                      if isinstance(node, ast.Assign) and isinstance(node.value, (ast.Dict, ast.List))]
            read = [node.value for node in ast.walk(tree) if isinstance(node, ast.Subscript)]
            for node in ast.walk(tree):
                if isinstance(node, ast.Compare):
                    read += node.comparators
            for node in ast.walk(tree):
                if isinstance(node, ast.Name) and node.id in tables and isinstance(node.ctx, ast.Load):
                    self.assertIn(node, read, (name, node.lineno))

    def test_what_only_reads_changes_nothing(self):
        for name, node in nodes(ast.FunctionDef):
            marks = [mark.id for mark in node.decorator_list if isinstance(mark, ast.Name)]
            if "property" in marks or (node.name in DUNDERS and node.name not in ("__init__", "__call__")):
                stored = [one for one in ast.walk(node) if isinstance(one, (ast.Attribute, ast.Subscript))]
                self.assertEqual([one for one in stored if not isinstance(one.ctx, ast.Load)], [], (name, node.name))


class Names(unittest.TestCase):
    def test_names_are_plain(self):
        for name, tree in trees():
            for one in bound(tree):
                self.assertTrue(one in DUNDERS or not one.startswith("_"), (name, one))
                self.assertNotIn(one, BARRED_NAMES | HIDDEN, name)

    def test_builtins(self):
        for name, tree in trees():
            known = BUILTINS | set(bound(tree))
            for node in ast.walk(tree):
                if isinstance(node, ast.Name):
                    self.assertIn(node.id, known, name)

    def test_methods(self):
        methods, properties, attributes = methods_and_attributes()
        for name, node in nodes(ast.Call):
            if isinstance(node.func, ast.Attribute):
                self.assertIn(node.func.attr, METHODS | methods, name)

    def test_attributes(self):
        methods, properties, attributes = methods_and_attributes()
        self.assertEqual(methods & attributes, set())
        self.assertEqual(properties & (methods | attributes), set())
        for name, node in nodes(ast.Attribute):
            self.assertIn(node.attr, METHODS | methods | properties | attributes, name)

    def test_no_variable_has_the_name_of_a_class_or_an_import(self):
        for name, tree in trees():
            taken = {one.name for one in tree.body if isinstance(one, ast.ClassDef)}
            imports = [one for one in tree.body if isinstance(one, ast.ImportFrom)]
            taken |= {alias.name for one in imports for alias in one.names}
            inner = [node.arg for node in ast.walk(tree) if isinstance(node, ast.arg)]
            stored = [node for node in ast.walk(tree) if isinstance(node, ast.Name)]
            inner += [node.id for node in stored if isinstance(node.ctx, ast.Store)]
            self.assertEqual(taken & set(inner), set(), name)


if __name__ == "__main__":
    unittest.main()
