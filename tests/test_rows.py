"""Points 1 and 5: names, numbers, and rows."""

import itertools
import unittest

from partnotes.errors import InvalidRow, InvalidText
from partnotes.rows import Back, Keep, Note, Open, Put, Ref, Row, Set, Skip, read_row
from tests import model
from tests.samples import (
    GOOD_NAMES, NO_NAMES, any_values, every_row, no_integers, no_strings, wrong_names,
)

NUMBERS = (1, 2, 9, 10, 1000, 9999999999, 10 ** 12)

# For each kind of row: its class, its first word, and its parameters with what they can be.
KINDS = [
    (Note, "note", [("counter", "name"), ("label", "label")]),
    (Skip, "skip", [("counter", "name"), ("by", "step")]),
    (Set, "set", [("counter", "name"), ("to", "number")]),
    (Keep, "keep", [("counter", "name")]),
    (Back, "back", [("counter", "name")]),
    (Ref, "ref", [("label", "name")]),
    (Put, "put", [("part", "name")]),
    (Open, "open", [("name", "name")]),
]

GOOD = {"name": GOOD_NAMES, "label": GOOD_NAMES + ("",), "step": NUMBERS, "number": NUMBERS + (0,)}


def wrong(kind):
    """Values that are not of a kind."""
    if kind == "name":
        return wrong_names()
    if kind == "label":
        return [value for value in wrong_names() if value != ""]
    below = [-1, -2, -10 ** 12] if kind == "number" else [0, -1, -2, -10 ** 12]
    return [*no_integers(), *below]


class Constructors(unittest.TestCase):
    def test_attributes(self):
        for made, word, parameters in KINDS:
            for values in itertools.product(*[GOOD[kind] for name, kind in parameters]):
                row = made(*values)
                self.assertIsInstance(row, Row)
                self.assertEqual(row.word, word)
                for (name, kind), value in zip(parameters, values):
                    self.assertEqual(getattr(row, name), value)

    def test_a_note_has_no_label_at_first(self):
        self.assertEqual(Note("f").label, "")
        self.assertEqual(Note("f"), Note("f", ""))

    def test_one_wrong_argument(self):
        for made, word, parameters in KINDS:
            values = [GOOD[kind][0] for name, kind in parameters]
            for at, (name, kind) in enumerate(parameters):
                for value in wrong(kind):
                    with self.assertRaises(InvalidRow, msg=(made, name, value)) as caught:
                        made(*[*values[:at], value, *values[at + 1:]])
                    self.assertEqual(caught.exception.word, name)

    def test_two_wrong_arguments(self):
        for made, word, parameters in KINDS:
            if len(parameters) == 2:
                for first in wrong(parameters[0][1]):
                    for second in wrong(parameters[1][1])[::7]:
                        with self.assertRaises(InvalidRow) as caught:
                            made(first, second)
                        self.assertEqual(caught.exception.word, "counter")

    def test_the_words_that_are_no_names(self):
        for name in NO_NAMES:
            for longer in (name[:-1], name + name, name[:-1] + "z"):
                good = longer not in NO_NAMES and 1 <= len(longer) <= 4
                if good:
                    self.assertEqual(Keep(longer).counter, longer)
                else:
                    self.assertRaises(InvalidRow, Keep, longer)


class Texts(unittest.TestCase):
    def test_texts(self):
        texts = ["note f", "note f cat", "skip f 2", "set f 0", "keep f", "back f", "ref cat", "put pic", "open x"]
        self.assertEqual([str(row) for row in every_row()], texts)

    def test_texts_of_all_values(self):
        for made, word, parameters in KINDS:
            for values in itertools.product(*[GOOD[kind] for name, kind in parameters]):
                words = [word, *[str(value) for value in values if value != ""]]
                self.assertEqual(str(made(*values)), " ".join(words))

    def test_rows_are_equal_if_their_texts_are(self):
        rows = [*every_row(), Note("g"), Note("f", "dog"), Note("g", "cat"), Skip("f", 3), Skip("g", 2)]
        rows += [Set("f", 2), Set("g", 0), Keep("g"), Back("g"), Ref("pic"), Put("cat"), Open("y")]
        for row, other in itertools.product(rows, rows):
            same = str(row) == str(other)
            self.assertIs(row == other, same)
            self.assertIs(row != other, not same)
        for row, other in zip(every_row(), every_row()):
            self.assertEqual(row, other)
            self.assertFalse(row != other)

    def test_rows_are_equal_to_nothing_else(self):
        for row in every_row():
            for value in [str(row), str(row).split(" "), (row.word,), [row], (row,), *no_strings()]:
                if not isinstance(value, Row):
                    self.assertIs(row == value, False)
                    self.assertIs(value == row, False)
                    self.assertIs(row != value, True)


class Reading(unittest.TestCase):
    def check(self, text):
        if model.is_row(text):
            row = read_row(text)
            self.assertEqual(str(row), text)
            self.assertEqual(row.word, text.split(" ")[0])
        else:
            with self.assertRaises(InvalidText, msg=repr(text)) as caught:
                read_row(text)
            self.assertEqual(caught.exception.at, 0)
            self.assertIs(isinstance(caught.exception.at, bool), False)

    def test_rows_are_read_with_their_classes(self):
        for row in every_row():
            self.assertEqual(read_row(str(row)), row)
            self.assertIs(type(read_row(str(row))), type(row))

    def test_attributes_of_rows_that_are_read(self):
        note, skip, put = read_row("note f cat"), read_row("skip f 20"), read_row("set fig 0")
        self.assertEqual((note.word, note.counter, note.label), ("note", "f", "cat"))
        self.assertEqual((skip.word, skip.counter, skip.by), ("skip", "f", 20))
        self.assertEqual((put.word, put.counter, put.to), ("set", "fig", 0))
        self.assertEqual(read_row("note f").label, "")

    def test_each_text_of_up_to_three_words(self):
        words = [*NO_NAMES, "f", "cat", "pics", "abcde", "F", "fA", "", "0", "1", "10", "007", "00", "-1", "+1"]
        words += ["1_0", "1.0", "9999999999", "10000000000", "00000000001", "f\n", "\n", "1\n", "counter", "under"]
        words += ["\u0661", "\u00b2", "\u00e9", "a\tb", "cat "]
        for many in range(4):
            for chosen in itertools.product(words, repeat=many):
                self.check(" ".join(chosen))

    def test_more_words(self):
        for row in every_row():
            for more in (" f", " 1", " f f", " ", "  ", " f ", "\n", "\nnote f", " \n", "\t", "\r"):
                for text in (str(row) + more, more + str(row), more.strip(" ") + str(row)):
                    self.check(text)

    def test_blanks(self):
        for row in every_row():
            self.check(str(row).replace(" ", "  "))
            self.check(str(row).replace(" ", "\t"))
            self.check(str(row).replace(" ", "\n"))
            self.check(str(row).replace(" ", ""))
            self.check(" " + str(row))
            self.check(str(row) + " ")
            self.check(str(row).upper())

    def test_numbers(self):
        numbers = ["0", "00", "1", "01", "9" * 10, "1" + "0" * 9, "1" + "0" * 10, "9" * 11, "0" * 10, "", "-0"]
        numbers += ["-1", "+1", " 1", "1 ", "1e3", "0x1", "1,000", "1_000", "\u0661", "\u00b2", "\uff11"]
        for number in numbers:
            self.check(f"skip f {number}")
            self.check(f"set f {number}")
            self.check(f"keep f {number}")
        self.assertEqual(read_row("skip f 9999999999").by, 9999999999)
        self.assertEqual(read_row("set f 1000000000").to, 10 ** 9)
        for text in ("skip f 0", "skip f 10000000000", "set f 10000000000", "set f 00", "skip f 01"):
            self.assertRaises(InvalidText, read_row, text)

    def test_names_that_are_no_names(self):
        for made, word, parameters in KINDS:
            for value in [value for value in any_values() if isinstance(value, str)]:
                self.check(f"{word} {value}")
                self.check(f"{word} {value} 1")
                self.check(f"{word} f {value}")


if __name__ == "__main__":
    unittest.main()
