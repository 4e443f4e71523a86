"""Point 7: books, without their reading."""

import itertools
import unittest

from partnotes.books import Book, Part
from partnotes.errors import InvalidBook, NoName, NoPlace
from partnotes.rows import Back, Keep, Note, Open, Put, Ref, Set, Skip
from tests.samples import any_values, every_row, no_strings, wrong_names

THREE = [("c", ""), ("f", "c"), ("r", "")]
OTHERS = [Part("a", [Note("f", "cat")]), Part("b", [Put("a"), Open("x")])]


def small_book():
    """A book with all kinds of rows."""
    first = Part("pic", [Note("f", "cat"), Open("y")])
    text = Part("book", [Note("c"), Put("pic"), Keep("f"), Open("x"), Back("f"), Ref("cat"), Put("pic"), Open("x")])
    return Book([("c", ""), ("f", "c")], [first, text])


def wrong_counters():
    """Values that are no sequences of counters."""
    wrong = [value for value in any_values() if value not in ([], (), [("f", "")])]
    for value in any_values():
        if value != ("f", ""):
            wrong += [[value], (value,), [("c", ""), value], [value, ("c", "")]]
    for name in wrong_names():
        wrong += [[(name, "")], [("c", ""), (name, "c")], [("c", ""), ("f", ""), (name, "f")]]
        if name != "":
            wrong += [[("c", name)], [("c", ""), ("f", name)]]
    wrong += [
        [["c", ""]], [("c", ""), ["f", "c"]], [("c",)], [("c", "", "")], [("c", ""), ("f", "c", "")], [()],
        [("c", "c")], [("c", "f"), ("f", "")], [("c", "f")], [("c", ""), ("f", "f")], [("c", ""), ("f", "r")],
        [("c", ""), ("c", "")], [("c", ""), ("c", "c")], [("c", ""), ("f", ""), ("c", "f")], "cf", ("c", ""),
        [("c", ""), ("f", "g"), ("g", "c")], [("c", ""), ("f", ("c",))], [("c", ""), ("f", ["c"])],
    ]
    return wrong


def wrong_parts():
    """Values that are no sequences of parts of a book."""
    wrong = any_values()
    for value in any_values():
        if not isinstance(value, Part):
            wrong += [[value], (value,), [Part("a"), value], [value, Part("a")]]
    wrong += [
        [[Part("a")]], ((Part("a"),),), [("a", ())], [("a", (Note("c"),))], [Note("c")], every_row(), [Part],
        [Part("a"), Part("a")], [Part("a"), Part("b"), Part("a", [Note("c")])], Part("a"), {"a": Part("a")},
        [Part("a"), Note("c")], [Part("a"), Book([], [Part("b")])], [Part("b"), "part a"],
    ]
    return wrong


class Invalid(unittest.TestCase):
    def word(self, counters, parts):
        with self.assertRaises(InvalidBook, msg=(counters, parts)) as caught:
            Book(counters, parts)
        return caught.exception.word

    def test_counters(self):
        for counters in wrong_counters():
            self.assertEqual(self.word(counters, [Part("a")]), "counters")

    def test_parts(self):
        for parts in wrong_parts():
            self.assertEqual(self.word(THREE, parts), "parts")

    def test_no_parts(self):
        self.assertEqual(self.word([], []), "parts")
        self.assertEqual(self.word(THREE, ()), "parts")

    def test_counter(self):
        for row in (Note("g"), Note("g", "c"), Skip("g", 1), Set("g", 0), Keep("g"), Back("g")):
            self.assertEqual(self.word(THREE, [Part("a", [row])]), "counter")
            self.assertEqual(self.word([], [Part("a", [row])]), "counter")
            self.assertEqual(self.word(THREE, [Part("a", [row]), Part("b")]), "counter")
            self.assertEqual(self.word(THREE, [Part("a"), Part("b", [Note("f"), row]), Part("c")]), "counter")
            self.assertEqual(Book([("g", "")], [Part("a", [row])]).parts[0].rows, (row,))

    def test_other_rows_need_no_counter(self):
        book = Book([], [Part("a"), Part("b", [Put("a"), Open("x")])])
        self.assertEqual(book.counters, ())

    def test_a_part_that_is_no_earlier_one(self):
        for parts in (
            [Part("a", [Put("a")])], [Part("a", [Put("b")]), Part("b")], [Part("a", [Put("c")]), Part("b")],
            [Part("a"), Part("b", [Put("a"), Put("b")])], [Part("a"), Part("b", [Put("c")]), Part("c")],
            [Part("a", [Put("b")]), Part("b", [Put("a")])], [Part("a", [Put("f")])],
        ):
            self.assertEqual(self.word(THREE, parts), "part")

    def test_ref(self):
        noted, named = Part("a", [Note("f", "cat")]), Part("b", [Ref("cat")])
        for parts in (
            [named], [noted, named], [Part("b", [Note("f"), Ref("f")])], [Part("b", [Note("f", "dog"), Ref("cat")])],
            [noted, named, Part("c", [Put("b")])], [noted, Part("d", [Put("a")]), named],
            [Part("x", [Open("cat"), Ref("cat")])],
            [Part("a", [Note("f", "cat"), Ref("cat"), Ref("dog")])],
        ):
            self.assertEqual(self.word(THREE, parts), "ref")

    def test_references_that_are_right(self):
        noted, named = Part("a", [Note("f", "cat")]), Part("b", [Ref("cat")])
        for parts in (
            [Part("b", [Ref("cat"), Note("f", "cat")])], [noted, Part("b", [Put("a"), Ref("cat")])],
            [noted, named, Part("c", [Put("b"), Put("a")])], [named, Part("c")], [named, noted],
            [noted, Part("b", [Put("a")]), Part("c", [Ref("cat"), Put("b")])],
            [Part("a", [Note("f", "cat"), Note("c", "cat"), Ref("cat")])],
        ):
            self.assertEqual(Book(THREE, parts).parts, tuple(parts))


class Order(unittest.TestCase):
    def test_two_things_wrong_at_once(self):
        faulty = {
            "counter": [Note("g")], "part": [Put("b")], "ref": [Ref("dog")],
        }
        for (first, rows), (second, more) in itertools.product(faulty.items(), faulty.items()):
            words = [word for word in ("counter", "part", "ref") if word in (first, second)]
            for book in ([Part("b", rows + more)], [Part("b", more + rows)]):
                with self.assertRaises(InvalidBook) as caught:
                    Book(THREE, book)
                self.assertEqual(caught.exception.word, words[0])

    def test_a_wrong_row_behind_another_one(self):
        for parts, word in (
            ([Part("a", [Put("z")]), Part("b", [Note("g")])], "counter"),
            ([Part("a", [Put("a"), Keep("g")])], "counter"),
            ([Part("a", [Ref("dog")]), Part("b", [Put("z"), Put("a")])], "part"),
            ([Part("a", [Ref("dog"), Note("g")])], "counter"),
            ([Part("a"), Part("a", [Note("g")])], "parts"),
            ([Part("a", [Note("g")]), 1], "parts"),
        ):
            with self.assertRaises(InvalidBook) as caught:
                Book(THREE, parts)
            self.assertEqual(caught.exception.word, word)

    def test_counters_come_before_all(self):
        for parts in [*wrong_parts()[::9], [Part("a", [Note("g")])], [Part("a", [Put("a")])], [Part("a", [Ref("g")])]]:
            for counters in wrong_counters()[::9]:
                with self.assertRaises(InvalidBook) as caught:
                    Book(counters, parts)
                self.assertEqual(caught.exception.word, "counters")


class Attributes(unittest.TestCase):
    def test_counters_and_parts(self):
        for counters in ([], (), THREE, tuple(THREE), [("f", ""), ("c", "f"), ("r", "c")]):
            for parts in ([Part("a")], (Part("a"),), [Part("b"), Part("a"), Part("c", [Put("b"), Put("b")])]):
                book = Book(counters, parts)
                self.assertIs(type(book.counters), tuple)
                self.assertIs(type(book.parts), tuple)
                self.assertEqual(book.counters, tuple(counters))
                self.assertEqual(book.parts, tuple(parts))
                self.assertEqual(len(book), len(parts))

    def test_one_name_for_things_of_all_kinds(self):
        book = Book([("a", "")], [Part("a", [Note("a", "a"), Open("a"), Ref("a")])])
        self.assertEqual((book.names, book.tops, book.chain("a")), (("a",), ("a",), ("a",)))
        self.assertEqual(book.part_of("a"), book.parts[0])

    def test_names(self):
        self.assertEqual(small_book().names, ("x", "y"))
        self.assertEqual(Book(THREE, OTHERS).names, ("x",))
        self.assertEqual(Book(THREE, [*OTHERS, Part("c")]).names, ())
        many = Part("c", [Open("z"), Put("b"), Open("aa"), Open("b"), Open("z")])
        self.assertEqual(Book(THREE, [*OTHERS, many]).names, ("aa", "b", "x", "z"))
        self.assertIs(type(small_book().names), tuple)

    def test_tops(self):
        self.assertEqual(Book([], [Part("a")]).tops, ())
        self.assertEqual(Book(THREE, [Part("a")]).tops, ("c", "r"))
        self.assertEqual(Book([("z", ""), ("a", ""), ("b", "z")], [Part("a")]).tops, ("z", "a"))
        self.assertIs(type(Book(THREE, [Part("a")]).tops), tuple)

    def test_chain(self):
        book = Book([("f", ""), ("c", "f"), ("r", "c"), ("s", "f"), ("t", "")], [Part("a")])
        chains = [("f",), ("f", "c"), ("f", "c", "r"), ("f", "s"), ("t",)]
        self.assertEqual([book.chain(name) for name in "fcrst"], chains)
        self.assertIs(type(book.chain("r")), tuple)

    def test_part_of(self):
        book = small_book()
        self.assertEqual((book.part_of("pic"), book.part_of("book")), book.parts)

    def test_names_that_there_are_not(self):
        book = small_book()
        for value in [value for value in any_values() if value not in ("c", "f")]:
            with self.assertRaises(NoName, msg=value) as caught:
                book.chain(value)
            self.assertIs(caught.exception.name, value)
        for value in [*any_values(), "c", "f", "x", "cat", "pics"]:
            with self.assertRaises(NoName, msg=value) as caught:
                book.part_of(value)
            self.assertIs(caught.exception.name, value)
        for value in ("pic", "book", "x", "cat"):
            self.assertRaises(NoName, book.chain, value)

    def test_text(self):
        lines = ["counter c", "counter f under c", "part pic", "note f cat", "open y", "part book", "note c"]
        lines += ["put pic", "keep f", "open x", "back f", "ref cat", "put pic", "open x"]
        self.assertEqual(str(small_book()), "\n".join(lines))
        self.assertEqual(str(Book([], [Part("a")])), "part a")
        self.assertEqual(str(Book([], [Part("b"), Part("a")])), "part b\npart a")

    def test_equality(self):
        parts = [[Part("a")], [Part("b")], [Part("a"), Part("b")], [Part("b"), Part("a")], [Part("a", [Open("x")])]]
        counters = [[], [("a", "")], [("a", ""), ("b", "")], [("a", ""), ("b", "a")], [("b", ""), ("a", "")]]
        books = [Book(some, others) for some in counters for others in parts]
        for (at, book), (number, other) in itertools.product(enumerate(books), enumerate(books)):
            self.assertIs(book == other, at == number)
            self.assertIs(book != other, at != number)
        self.assertEqual(small_book(), small_book())
        for value in [str(small_book()), small_book().parts, list(small_book().parts), *no_strings()]:
            if not isinstance(value, Book):
                self.assertIs(small_book() == value, False)
                self.assertIs(value == small_book(), False)


class Changed(unittest.TestCase):
    def rows(self, book):
        return [str(row) for row in book.parts[-1].rows]

    def test_without(self):
        book = small_book()
        before = self.rows(book)
        for at in range(len(before)):
            other = book.without("book", at)
            self.assertIsInstance(other, Book)
            self.assertEqual(self.rows(other), before[:at] + before[at + 1:])
            self.assertEqual((other.counters, other.parts[0]), (book.counters, book.parts[0]))
        self.assertEqual(self.rows(book), before)
        self.assertEqual(book.without("pic", 1).parts[0], Part("pic", [Note("f", "cat")]))
        self.assertEqual(book.without("pic", 1).names, ("x",))
        self.assertEqual(book.names, ("x", "y"))

    def test_having(self):
        book = small_book()
        before = self.rows(book)
        for at in range(len(before) + 1):
            other = book.having("book", at, Open("z"))
            self.assertIsInstance(other, Book)
            self.assertEqual(self.rows(other), before[:at] + ["open z"] + before[at:])
            self.assertEqual((other.counters, other.parts[0]), (book.counters, book.parts[0]))
            self.assertEqual(other.without("book", at), book)
        self.assertEqual(self.rows(book), before)
        longer = Part("pic", [Note("f", "cat"), Open("y"), Note("c")])
        self.assertEqual(book.having("pic", 2, Note("c")).parts[0], longer)
        self.assertEqual(Book([], [Part("a")]).having("a", 0, Open("x")), Book([], [Part("a", [Open("x")])]))

    def test_places_that_there_are_not(self):
        book = small_book()
        for name, many in (("book", 8), ("pic", 2)):
            for at in (-1, -2, -many, -many - 1, many, many + 1, many + 2, 10 ** 12, -10 ** 12):
                with self.assertRaises(NoPlace) as caught:
                    book.without(name, at)
                self.assertEqual(caught.exception.at, at)
                if at != many:
                    with self.assertRaises(NoPlace) as caught:
                        book.having(name, at, Note("f"))
                    self.assertEqual(caught.exception.at, at)
        self.assertRaises(NoPlace, Book([], [Part("a")]).without, "a", 0)
        self.assertRaises(NoPlace, Book([], [Part("a")]).having, "a", 1, Open("x"))

    def test_names_that_there_are_not(self):
        book = small_book()
        for name in [*any_values(), "c", "f", "cat", "pics"]:
            for at in (0, -1, 100):
                for call in (lambda: book.without(name, at), lambda: book.having(name, at, Note("g"))):
                    with self.assertRaises(NoName) as caught:
                        call()
                    self.assertIs(caught.exception.name, name)

    def test_no_place_comes_before_no_book(self):
        book = small_book()
        for row in (Note("g"), Put("book"), Ref("dog")):
            self.assertRaises(NoPlace, book.having, "book", 9, row)
            self.assertRaises(NoPlace, book.having, "book", -1, row)

    def test_no_book(self):
        book = small_book()
        for name, row, word in (
            ("book", Note("g"), "counter"), ("book", Keep("x"), "counter"), ("pic", Note("g"), "counter"),
            ("book", Put("book"), "part"), ("pic", Put("book"), "part"), ("pic", Put("pic"), "part"),
            ("book", Put("dog"), "part"), ("book", Ref("dog"), "ref"), ("pic", Ref("dog"), "ref"),
        ):
            for at in (0, 1, 2):
                with self.assertRaises(InvalidBook) as caught:
                    book.having(name, at, row)
                self.assertEqual(caught.exception.word, word)
        with self.assertRaises(InvalidBook) as caught:
            book.without("pic", 0)
        self.assertEqual(caught.exception.word, "ref")


if __name__ == "__main__":
    unittest.main()
