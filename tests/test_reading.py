"""Point 7: `Book.read`, with the order of all errors of books."""

import unittest

from partnotes.books import Book, Part
from partnotes.errors import InvalidBook, InvalidText
from partnotes.rows import Back, Keep, Note, Open, Put
from tests import model

LINES = [
    "counter c", "counter f under c", "part pic", "note f", "note f", "part book", "note c", "put pic", "keep f",
    "open x", "back f", "put pic",
]
LABELS = [
    "counter c", "counter f", "counter r under f", "part a", "note r cat", "open x", "part b", "ref cat", "put a",
    "part d", "note c dog", "set f 3", "put b", "ref dog", "skip r 2", "open y", "put a", "ref cat",
]
MORE_LINES = [
    "", " ", "counter c", "counter f", "counter g", "counter g under f", "counter f under g", "counter f under f",
    "counter", "counter ", "counter f ", "counter f under", "counter f under ", "counter f under c ", " counter f",
    "counter  f", "counter f  under c", "counter f above c", "counter f under c under c", "counter note",
    "counter f under note", "counter F", "counter abcde", "counter f c", "counter under under", "counter f under ''",
    "part", "part ", "part book", "part pic", "part new", "part note", "part a b", "part  a", "part a ", "part A",
    " part a", "part abcde", "note f", "note c", "note g", "note f cat", "note f  ", "note", "ref cat", "ref dog",
    "put pic", "put book", "put new", "put f", "open x", "open c", "open open", "set f 0", "set f 00", "skip f 0",
    "skip f 1", "skip f 9999999999", "skip f 10000000000", "keep f", "keep g", "back c", "back", "under f", "x", "0",
    "# a", "note f\t", "note f\r", "note f\f", "note f\u2028note f", "NOTE f", "counter c;part a",
]


class Reading(unittest.TestCase):
    def check(self, text):
        """Compare what is read with what the document says of the lines."""
        at = model.first_wrong_line(text)
        if at is not None:
            with self.assertRaises(InvalidText, msg=repr(text)) as caught:
                Book.read(text)
            self.assertEqual(caught.exception.at, at, repr(text))
            return
        word = model.wrong_word(text)
        if word is not None:
            with self.assertRaises(InvalidBook, msg=repr(text)) as caught:
                Book.read(text)
            self.assertEqual(caught.exception.word, word, repr(text))
            return
        book = Book.read(text)
        counters, parts = model.told(text)
        self.assertEqual(str(book), text)
        self.assertEqual([str(row).split() for row in book.unrolled], model.unrolled(parts, parts[-1][0]))
        self.assertEqual(len(book), len(parts))

    def test_a_book(self):
        pic = Part("pic", [Note("f"), Note("f")])
        text = Part("book", [Note("c"), Put("pic"), Keep("f"), Open("x"), Back("f"), Put("pic")])
        book = Book.read("\n".join(LINES))
        self.assertIsInstance(book, Book)
        self.assertEqual(book, Book([("c", ""), ("f", "c")], [pic, text]))
        self.assertEqual(book.counters, (("c", ""), ("f", "c")))
        self.assertEqual(book.parts, (pic, text))
        self.assertIs(type(book.counters[1]), tuple)

    def test_texts_are_read_again(self):
        for lines in (LINES, LABELS, ["part a"], ["part a", "part b"], ["part a", "open x"]):
            self.check("\n".join(lines))

    def test_the_empty_text(self):
        for text in ("", " ", "\n", "\n\n"):
            self.check(text)
            with self.assertRaises(InvalidText) as caught:
                Book.read(text)
            self.assertEqual(caught.exception.at, 0)

    def test_no_part(self):
        for text in ("counter c", "counter c\ncounter f under c"):
            with self.assertRaises(InvalidBook) as caught:
                Book.read(text)
            self.assertEqual(caught.exception.word, "parts")
        with self.assertRaises(InvalidBook) as caught:
            Book.read("counter c\ncounter c")
        self.assertEqual(caught.exception.word, "counters")

    def test_single_lines(self):
        for line in MORE_LINES:
            self.check(line)
            for more in MORE_LINES:
                self.check(line + "\n" + more)

    def test_a_line_replaced_or_put_in(self):
        for lines in (LINES, LABELS):
            for at in range(len(lines) + 1):
                for line in MORE_LINES:
                    self.check("\n".join([*lines[:at], line, *lines[at + 1:]]))
                    self.check("\n".join([*lines[:at], line, *lines[at:]]))

    def test_a_line_removed_or_doubled_or_moved(self):
        for lines in (LINES, LABELS):
            for at in range(len(lines)):
                rest = lines[:at] + lines[at + 1:]
                self.check("\n".join(rest))
                self.check("\n".join([*lines[:at], lines[at], *lines[at:]]))
                for to in range(len(lines)):
                    self.check("\n".join([*rest[:to], lines[at], *rest[to:]]))

    def test_an_empty_line_at_the_end(self):
        text = "\n".join(LINES)
        with self.assertRaises(InvalidText) as caught:
            Book.read(text + "\n")
        self.assertEqual(caught.exception.at, 12)
        with self.assertRaises(InvalidText) as caught:
            Book.read("\n" + text)
        self.assertEqual(caught.exception.at, 0)

    def test_lines_that_cannot_stand_there(self):
        for text, at in (
            ("note f\npart a", 0), ("counter f\nnote f\npart a", 1), ("part a\ncounter f", 1),
            ("counter f\npart a\nnote f\ncounter g\nnote", 3), ("counter f under f under f\npart a", 0),
            ("part a\n\npart b", 1), ("part a\npart b\nput", 2), ("counter c\r\npart a", 0),
        ):
            with self.assertRaises(InvalidText) as caught:
                Book.read(text)
            self.assertEqual(caught.exception.at, at)

    def test_the_text_comes_before_the_book(self):
        for text in ("counter f\ncounter f\npart a\nx", "part a\nnote f\nx", "part a\nput a\npart a\nx"):
            with self.assertRaises(InvalidText) as caught:
                Book.read(text)
            self.assertEqual(caught.exception.at, text.count("\n"))

    def test_names_are_no_matter_to_the_text(self):
        for text, word in (
            ("counter f under c\npart a", "counters"), ("counter f under f\npart a", "counters"),
            ("counter f\ncounter f\npart a", "counters"), ("part a\npart a", "parts"), ("part a\nnote f", "counter"),
            ("part a\nput a", "part"), ("part a\nput b\npart b", "part"), ("part a\nref a", "ref"),
        ):
            with self.assertRaises(InvalidBook) as caught:
                Book.read(text)
            self.assertEqual(caught.exception.word, word)


if __name__ == "__main__":
    unittest.main()
