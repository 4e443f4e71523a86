"""Point 6: parts."""

import itertools
import unittest

from partnotes.books import Book, Part
from partnotes.errors import InvalidPart
from partnotes.rows import Keep, Note, Open, Row
from tests.samples import GOOD_NAMES, any_values, every_row, no_strings, wrong_names


def wrong_rows():
    """Values that are no sequences of rows."""
    wrong = [value for value in any_values() if value not in ([], ())]
    for value in any_values():
        if not isinstance(value, Row):
            wrong += [[value], (value,), [Note("f"), value], (value, Note("f"))]
    return [*wrong, [[Note("f")]], ((Note("f"),),), [Note("f"), "note f"], [Part("a")], Note("f"), Row, [Row], [Note]]


class Parts(unittest.TestCase):
    def word(self, name, rows):
        with self.assertRaises(InvalidPart, msg=(name, rows)) as caught:
            Part(name, rows)
        return caught.exception.word

    def test_attributes(self):
        for name in GOOD_NAMES:
            for rows in ([], (), every_row(), tuple(every_row()), [Note(name)], (Open("x"),) * 20):
                part = Part(name, rows)
                self.assertEqual(part.name, name)
                self.assertIs(type(part.rows), tuple)
                self.assertEqual(part.rows, tuple(rows))

    def test_a_part_has_no_rows_at_first(self):
        self.assertEqual(Part("a").rows, ())
        self.assertEqual(Part("a"), Part("a", []))

    def test_wrong_names(self):
        for name in wrong_names():
            self.assertEqual(self.word(name, [Note("f")]), "name")
            with self.assertRaises(InvalidPart) as caught:
                Part(name)
            self.assertEqual(caught.exception.word, "name")

    def test_wrong_rows(self):
        for rows in wrong_rows():
            self.assertEqual(self.word("a", rows), "rows")

    def test_the_name_comes_first(self):
        for name, rows in itertools.product(wrong_names()[::5], wrong_rows()[::7]):
            self.assertEqual(self.word(name, rows), "name")

    def test_text(self):
        self.assertEqual(str(Part("pic")), "part pic")
        lines = ["part pic", "note f", "note f cat", "skip f 2", "set f 0", "keep f", "back f"]
        lines += ["ref cat", "put pic", "open x"]
        self.assertEqual(str(Part("pic", every_row())), "\n".join(lines))

    def test_parts_are_equal_if_their_texts_are(self):
        parts = [Part(name, rows) for name in ("a", "b") for rows in ((), [Note("f")], [Keep("f")])]
        parts += [Part("a", every_row()), Part("a", every_row()[::-1]), Part("a", [Note("f"), Note("f")])]
        for (at, part), (number, other) in itertools.product(enumerate(parts), enumerate(parts)):
            self.assertIs(part == other, at == number)
            self.assertIs(part != other, at != number)
        self.assertEqual(Part("a", every_row()), Part("a", tuple(every_row())))

    def test_parts_are_equal_to_nothing_else(self):
        part = Part("a", [Note("f")])
        book = Book([("f", "")], [part])
        for value in [str(part), "a", ("a", (Note("f"),)), [part], part.rows, book, *no_strings()]:
            if not isinstance(value, Part):
                self.assertIs(part == value, False)
                self.assertIs(value == part, False)
                self.assertIs(part != value, True)
        self.assertIs(Part("a") == Book([], [Part("a")]), False)


if __name__ == "__main__":
    unittest.main()
