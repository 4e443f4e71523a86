"""The interface at the end of DOC.md: what stands in which file, with which arguments."""

import ast
import unittest
from pathlib import Path

from partnotes.books import Book, Part
from partnotes.desk import Desk
from partnotes.leaves import Leaves
from partnotes.live import Live
from partnotes.maps import Map
from partnotes.numbers import Filling, play
from partnotes.rows import Note
from tests.samples import every_row

PACKAGE = Path(__file__).resolve().parent.parent / "partnotes"

ROW_METHODS = {"__eq__": ["other"], "__str__": []}

# For each file: its functions with their parameters, and its classes with their methods.
FUNCTIONS = {
    "errors": {}, "rows": {"read_row": ["text"]}, "books": {},
    "numbers": {"play": ["book", "filling"], "faults_at": ["book", "filling"]},
    "maps": {"map_of": ["book", "name", "counter"]}, "leaves": {},
    "deciding": {
        "happens": ["book", "leaves", "fault"], "example": ["book", "leaves", "fault"], "faults": ["book", "leaves"],
        "twins": ["book", "leaves"],
    },
    "papers": {
        "cases": ["book", "leaves"], "paper": ["book", "leaves"], "paper_holds": ["book", "leaves", "value"],
    },
    "comparing": {
        "alike": ["p", "q", "leaves"], "parting": ["p", "q", "leaves"], "needless": ["book", "leaves"],
    },
    "origins": {
        "origins": ["book", "leaves", "counter", "prints"], "telling": ["book", "leaves", "at", "prints"],
        "spread": ["book", "leaves", "at"],
    },
    "mending": {"widest": ["book", "leaves", "wanted"], "starts": ["book", "leaves", "counter", "wanted"]},
    "live": {}, "desk": {},
}
CLASSES = {
    "errors": {
        "NoteError": {}, "InvalidFault": {}, "InvalidCommand": {}, "Mismatch": {},
        **{name: {"__init__": ["word"]} for name in (
            "InvalidRow", "InvalidPart", "InvalidBook", "InvalidFilling", "InvalidMap")},
        **{name: {"__init__": ["at"]} for name in ("InvalidText", "InvalidLeaves", "Refused", "NoPlace")},
        "NoName": {"__init__": ["name"]},
    },
    "rows": {
        "Row": {},
        "Note": {"__init__": ["counter", "label"], **ROW_METHODS},
        "Skip": {"__init__": ["counter", "by"], **ROW_METHODS},
        "Set": {"__init__": ["counter", "to"], **ROW_METHODS},
        "Keep": {"__init__": ["counter"], **ROW_METHODS},
        "Back": {"__init__": ["counter"], **ROW_METHODS},
        "Ref": {"__init__": ["label"], **ROW_METHODS},
        "Put": {"__init__": ["part"], **ROW_METHODS},
        "Open": {"__init__": ["name"], **ROW_METHODS},
    },
    "books": {
        "Part": {"__init__": ["name", "rows"], **ROW_METHODS},
        "Book": {
            "__init__": ["counters", "parts"], "names": [], "tops": [], "unrolled": [], "part_of": ["name"],
            "chain": ["name"], "without": ["name", "at"], "having": ["name", "at", "row"], "read": ["text"],
            "__len__": [], **ROW_METHODS,
        },
    },
    "numbers": {
        "Filling": {"__init__": ["parts"], "names": [], "rows_for": ["name"], **ROW_METHODS},
        "Played": {},
    },
    "maps": {
        "Map": {
            "__init__": ["now", "box"], "__call__": ["number", "kept"], "times": ["n"], "__rshift__": ["other"],
            **ROW_METHODS,
        },
    },
    "leaves": {
        "Leaves": {
            "__init__": ["items"], "pairs": [], "word_of": ["name", "counter"], "allow": ["book", "filling"],
            "__len__": [], **{f"__{sign}__": ["other"] for sign in ("or", "and", "le", "ge")}, **ROW_METHODS,
        },
    },
    "live": {
        "Live": {
            "__init__": ["book", "leaves"], "book": [], "leaves": [], "insert": ["at", "row"], "remove": ["at"],
            "several": ["rows"], "use": ["leaves"], "prints": ["at"], "undo": [], "within": ["work"], "__len__": [],
        },
    },
    "desk": {"Desk": {"__init__": [], "say": ["command"]}},
}


def tree_of(module):
    return ast.parse((PACKAGE / f"{module}.py").read_text(encoding="utf-8"))


def parameters(function):
    return [one.arg for one in function.args.args]


def functions_in(body):
    return {one.name: one for one in body if isinstance(one, ast.FunctionDef)}


class Interface(unittest.TestCase):
    def test_functions(self):
        for module, functions in FUNCTIONS.items():
            defined = functions_in(tree_of(module).body)
            for name, wanted in functions.items():
                self.assertEqual(parameters(defined[name]), wanted, name)

    def test_classes_and_methods(self):
        for module, classes in CLASSES.items():
            defined = {one.name: one for one in tree_of(module).body if isinstance(one, ast.ClassDef)}
            for name, methods in classes.items():
                own = functions_in(defined[name].body)
                for method, wanted in methods.items():
                    self.assertEqual(parameters(own[method])[1:], wanted, (name, method))

    def test_properties_and_class_methods(self):
        for name in ("names", "tops", "unrolled"):
            self.assertIsInstance(vars(Book)[name], property)
        self.assertIsInstance(vars(Book)["read"], classmethod)
        self.assertIsInstance(vars(Filling)["names"], property)
        self.assertIsInstance(vars(Leaves)["pairs"], property)
        for name in ("book", "leaves"):
            self.assertIsInstance(vars(Live)[name], property)

    def test_attributes_are_set_at_once(self):
        for row in every_row():
            wanted = CLASSES["rows"][type(row).__name__]["__init__"]
            self.assertLessEqual({"word", *wanted}, set(vars(row)))
        self.assertLessEqual({"name", "rows"}, set(vars(Part("a"))))
        self.assertLessEqual({"counters", "parts"}, set(vars(Book([], [Part("a")]))))
        self.assertLessEqual({"notes", "refs", "ends"}, set(vars(play(Book([], [Part("a")]), Filling()))))
        self.assertLessEqual({"now", "box"}, set(vars(Map())))
        self.assertLessEqual({"live"}, set(vars(Desk())))

    def test_default_values(self):
        for kind, wanted in ((Note, ("",)), (Part, ((),)), (Filling, ((),)), (Leaves, ((),)),
                             (Map, (("now", 0), ("box", 0)))):
            self.assertEqual(kind.__init__.__defaults__, wanted)

    def test_the_package_itself_has_only_a_docstring(self):
        body = tree_of("__init__").body
        self.assertEqual(len(body), 1)
        self.assertIsInstance(body[0], ast.Expr)
        self.assertIsInstance(body[0].value.value, str)


if __name__ == "__main__":
    unittest.main()
