"""Point 8: the unrolled text, up to the limits of point 3."""

import unittest

from partnotes.books import Book, Part
from partnotes.errors import InvalidBook
from partnotes.rows import Keep, Note, Open, Put, Ref, Skip

COUNTERS = [("c", ""), ("f", "c"), ("r", "f")]


def told(book):
    return [str(row) for row in book.unrolled]


class Unrolled(unittest.TestCase):
    def test_no_rows(self):
        self.assertEqual(Book([], [Part("a")]).unrolled, ())
        self.assertEqual(Book([], [Part("a"), Part("b", [Put("a"), Put("a")])]).unrolled, ())

    def test_rows_stay_in_order(self):
        rows = [Note("f"), Skip("f", 3), Open("x"), Keep("c"), Note("f", "cat"), Ref("cat")]
        book = Book(COUNTERS, [Part("a", rows)])
        self.assertIs(type(book.unrolled), tuple)
        self.assertEqual(book.unrolled, tuple(rows))

    def test_a_part_that_is_put_in_twice(self):
        pic = Part("pic", [Note("f"), Open("x")])
        book = Book(COUNTERS, [pic, Part("b", [Put("pic"), Keep("c"), Put("pic"), Note("c")])])
        self.assertEqual(told(book), ["note f", "open x", "keep c", "note f", "open x", "note c"])

    def test_parts_in_parts(self):
        parts = [
            Part("a", [Note("f"), Open("x")]), Part("b", [Put("a"), Keep("c"), Put("a")]), Part("z", [Open("z")]),
            Part("d", [Put("b"), Note("c"), Put("a"), Put("z"), Put("b")]),
        ]
        first = ["note f", "open x"]
        second = [*first, "keep c", *first]
        self.assertEqual(told(Book(COUNTERS, parts)), [*second, "note c", *first, "open z", *second])
        self.assertEqual(told(Book(COUNTERS, parts[:3])), ["open z"])
        self.assertEqual(told(Book(COUNTERS, parts[:2])), second)

    def test_the_text_is_the_last_part(self):
        parts = [Part("a", [Note("f")]), Part("b", [Note("c")]), Part("d", [Note("r")])]
        self.assertEqual(told(Book(COUNTERS, parts)), ["note r"])
        self.assertEqual(told(Book(COUNTERS, parts[::-1])), ["note f"])

    def test_there_are_no_put_rows(self):
        parts = [Part("a", [Note("f")]), Part("b", [Put("a")] * 3), Part("d", [Put("b"), Put("a")] * 4)]
        rows = Book(COUNTERS, parts).unrolled
        self.assertEqual([row.word for row in rows], ["note"] * 16)

    def test_200_rows(self):
        parts = [
            Part("a", [Note("f"), Open("x"), Keep("c"), Skip("r", 1000)]), Part("b", [Put("a")] * 5),
            Part("d", [Put("b"), Put("b")]), Part("e", [Put("d")]), Part("g", [Put("e")]), Part("h", [Put("g")] * 5),
        ]
        self.assertEqual(told(Book(COUNTERS, parts)), ["note f", "open x", "keep c", "skip r 1000"] * 50)

    def test_parts_without_rows_that_are_put_in_very_often(self):
        parts = [Part("a")]
        for name in ("b", "d", "e", "g", "h"):
            parts.append(Part(name, [Put(parts[-1].name)] * 20))
        book = Book([], parts)
        self.assertEqual((book.unrolled, book.names, len(book)), ((), (), 6))

    def test_very_long_parts_that_are_not_put_in(self):
        parts = [Part("a", [Note("f", "cat")] * 20)]
        for name in ("b", "d", "e", "g"):
            parts.append(Part(name, [Put(parts[-1].name)] * 20))
        book = Book(COUNTERS, [*parts, Part("h", [Note("c")])])
        self.assertEqual(told(book), ["note c"])
        self.assertEqual(told(book.having("h", 0, Put("a"))), ["note f cat"] * 20 + ["note c"])
        with self.assertRaises(InvalidBook) as caught:
            book.having("h", 0, Ref("cat"))
        self.assertEqual(caught.exception.word, "ref")


if __name__ == "__main__":
    unittest.main()
