"""Point 2: conventions, for all that is built."""

import itertools
import unittest

from partnotes.books import Book, Part
from partnotes.errors import (
    InvalidBook, InvalidFilling, InvalidLeaves, InvalidMap, InvalidPart, InvalidRow, InvalidText, NoName, NoPlace,
    Refused,
)
from partnotes.rows import Back, Keep, Note, Open, Put, Ref, Row, Set, Skip, read_row
from tests.samples import any_values, every_object

TEXT = "counter c\ncounter f under c\npart a\nnote f cat\npart b\nput a\nopen x\nref cat"


def state(book):
    """All that a book tells."""
    return (str(book), book.counters, book.parts, book.names, book.tops, book.unrolled, len(book))


class Names(unittest.TestCase):
    """Arguments may be passed by their names, in any order."""

    def test_errors(self):
        for error in (InvalidRow, InvalidPart, InvalidBook, InvalidFilling, InvalidMap):
            self.assertEqual(error(word="f").word, "f")
        for error in (InvalidText, InvalidLeaves, Refused, NoPlace):
            self.assertEqual(error(at=3).at, 3)
        self.assertEqual(NoName(name="f").name, "f")

    def test_rows(self):
        self.assertEqual(str(Note(label="cat", counter="f")), "note f cat")
        self.assertEqual(str(Note(counter="f")), "note f")
        self.assertEqual(str(Skip(by=2, counter="f")), "skip f 2")
        self.assertEqual(str(Set(to=0, counter="f")), "set f 0")
        self.assertEqual(str(Keep(counter="f")), "keep f")
        self.assertEqual(str(Back(counter="f")), "back f")
        self.assertEqual(str(Ref(label="cat")), "ref cat")
        self.assertEqual(str(Put(part="pic")), "put pic")
        self.assertEqual(str(Open(name="x")), "open x")
        self.assertEqual(read_row(text="note f cat"), Note("f", "cat"))

    def test_parts_and_books(self):
        part = Part(rows=[Note("f")], name="a")
        self.assertEqual(part, Part("a", [Note("f")]))
        self.assertEqual(Part(name="a"), Part("a"))
        book = Book(parts=[part], counters=[("f", "")])
        self.assertEqual(book, Book([("f", "")], [part]))
        self.assertEqual(Book.read(text=TEXT), Book.read(TEXT))

    def test_methods_of_books(self):
        book = Book.read(TEXT)
        self.assertEqual(book.part_of(name="a"), book.part_of("a"))
        self.assertEqual(book.chain(name="f"), ("c", "f"))
        self.assertEqual(book.without(at=1, name="b"), book.without("b", 1))
        self.assertEqual(book.having(row=Note("c"), at=2, name="b"), book.having("b", 2, Note("c")))
        self.assertEqual(book.having(at=0, name="a", row=Open("y")), book.having("a", 0, Open("y")))


class Changes(unittest.TestCase):
    def test_rows_of_a_part_that_are_changed_later(self):
        rows = [Note("f"), Open("x")]
        part = Part("a", rows)
        rows.append(Note("c"))
        rows[0] = Note("c")
        self.assertEqual(part.rows, (Note("f"), Open("x")))
        self.assertEqual(str(part), "part a\nnote f\nopen x")

    def test_arguments_of_a_book_that_are_changed_later(self):
        counters = [("c", ""), ("f", "c")]
        parts = [Part("a", [Note("f")]), Part("b", [Put("a"), Open("x")])]
        book = Book(counters, parts)
        before = state(book)
        counters.pop()
        counters[0] = ("z", "")
        parts.append(Part("d", [Open("y")]))
        parts[0] = Part("z")
        self.assertEqual(state(book), before)
        self.assertEqual(book.chain("f"), ("c", "f"))
        self.assertEqual(book.part_of("a"), Part("a", [Note("f")]))
        self.assertRaises(NoName, book.part_of, "d")

    def test_functions_do_not_change_their_arguments(self):
        rows, counters = [Note("f"), Open("x")], [("c", ""), ("f", "c")]
        parts = [Part("a", rows), Part("b", [Put("a")])]
        Book(counters, parts).having("b", 0, Note("c")).without("a", 0)
        self.assertEqual(rows, [Note("f"), Open("x")])
        self.assertEqual(counters, [("c", ""), ("f", "c")])
        self.assertEqual(parts, [Part("a", rows), Part("b", [Put("a")])])
        self.assertRaises(InvalidBook, Book, counters, [*parts, Part("d", [Note("g")])])
        self.assertEqual(parts, [Part("a", rows), Part("b", [Put("a")])])

    def test_errors_keep_the_arguments_themselves(self):
        book, name = Book.read(TEXT), ["a"]
        for call in (book.part_of, book.chain, lambda value: book.without(value, 0)):
            with self.assertRaises(NoName) as caught:
                call(name)
            self.assertIs(caught.exception.name, name)

    def test_books_do_not_change(self):
        book = Book.read(TEXT)
        before = state(book)
        book.having("b", 1, Open("y"))
        book.without("b", 1)
        for call in (
            lambda: book.having("b", 0, Note("g")), lambda: book.without("a", 0), lambda: book.without("b", -1),
            lambda: book.chain("x"), lambda: book.part_of(None), lambda: Book.read(TEXT + "\n"),
        ):
            self.assertRaises((InvalidBook, InvalidText, NoName, NoPlace), call)
        self.assertEqual(state(book), before)


class Sequences(unittest.TestCase):
    def test_lists_and_tuples_may_be_passed_and_tuples_are_returned(self):
        for kind, other in itertools.product((list, tuple), (list, tuple)):
            part = Part("a", kind([Note("f")]))
            book = Book(other([("f", "")]), kind([part]))
            self.assertEqual(str(book), "counter f\npart a\nnote f")
            for value in (part.rows, book.counters, book.parts, book.names, book.tops, book.unrolled, book.chain("f")):
                self.assertIs(type(value), tuple)

    def test_a_pair_is_no_list(self):
        self.assertRaises(InvalidBook, Book, [["f", ""]], [Part("a")])


class Repeated(unittest.TestCase):
    def test_the_same_call_twice(self):
        book = Book.read(TEXT)
        calls = [
            lambda: str(book), lambda: book.names, lambda: book.tops, lambda: book.unrolled, lambda: len(book),
            lambda: book.chain("f"), lambda: book.part_of("b"), lambda: book.without("b", 1),
            lambda: book.having("b", 1, Open("y")), lambda: Book.read(TEXT), lambda: read_row("note f cat"),
            lambda: Part("a", [Note("f")]), lambda: Skip("f", 2),
        ]
        first = [call() for call in calls]
        self.assertEqual([call() for call in calls], first)
        self.assertEqual([call() for call in calls[::-1]], first[::-1])


class Equality(unittest.TestCase):
    def test_objects_of_other_classes(self):
        objects = [value for value in every_object() if not isinstance(value, Exception)]
        for one, other in itertools.product(objects, any_values()):
            rows = isinstance(one, Row) and isinstance(other, Row)
            same = (rows or type(one) is type(other)) and str(one) == str(other)
            self.assertIs(one == other, same)
            self.assertIs(other == one, same)
            self.assertIs(one != other, not same)

    def test_a_part_and_a_book_with_one_text(self):
        part, book = Part("a"), Book([], [Part("a")])
        self.assertEqual(str(part), str(book))
        self.assertIs(part == book, False)
        self.assertIs(book == part, False)
        self.assertIs(book == "part a", False)


class Iteration(unittest.TestCase):
    def test_objects_are_not_iterable(self):
        for value in every_object():
            for use in (iter, list, tuple, sorted, lambda one: [*one], lambda one: "f" in one):
                self.assertRaises(TypeError, use, value)

    def test_they_have_no_items(self):
        for value in every_object():
            with self.assertRaises(TypeError):
                value[0]


if __name__ == "__main__":
    unittest.main()
