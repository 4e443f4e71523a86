"""Rows: what the lines of a part say.

Each kind of row has its own methods, also where they look alike: the interface
lists them for each class.
"""

from partnotes.checks import is_name, is_number
from partnotes.errors import InvalidRow, InvalidText

MOST_DIGITS = 10


class Row:
    """What all rows are instances of; it is not made itself."""


def same_row(row, other):
    """Tell whether a row and any object are rows with one text."""
    return isinstance(other, Row) and str(row) == str(other)


def need_name(value, word):
    """Raise InvalidRow with this word if a value is no name."""
    if not is_name(value):
        raise InvalidRow(word)


class Note(Row):
    """A note, which lets its counter go on by 1 and prints."""

    def __init__(self, counter, label=""):
        need_name(counter, "counter")
        if label != "":
            need_name(label, "label")
        self.word = "note"
        self.counter = counter
        self.label = label

    def __str__(self):
        if self.label == "":
            return f"note {self.counter}"
        return f"note {self.counter} {self.label}"

    def __eq__(self, other):
        return same_row(self, other)


class Skip(Row):
    """A counter goes on by some number from 1 on."""

    def __init__(self, counter, by):
        need_name(counter, "counter")
        if not is_number(by) or by == 0:
            raise InvalidRow("by")
        self.word = "skip"
        self.counter = counter
        self.by = by

    def __str__(self):
        return f"skip {self.counter} {self.by}"

    def __eq__(self, other):
        return same_row(self, other)


class Set(Row):
    """A counter is set to a number."""

    def __init__(self, counter, to):
        need_name(counter, "counter")
        if not is_number(to):
            raise InvalidRow("to")
        self.word = "set"
        self.counter = counter
        self.to = to

    def __str__(self):
        return f"set {self.counter} {self.to}"

    def __eq__(self, other):
        return same_row(self, other)


class Keep(Row):
    """The number of a counter is put into its box."""

    def __init__(self, counter):
        need_name(counter, "counter")
        self.word = "keep"
        self.counter = counter

    def __str__(self):
        return f"keep {self.counter}"

    def __eq__(self, other):
        return same_row(self, other)


class Back(Row):
    """A counter is set to the number that is in its box."""

    def __init__(self, counter):
        need_name(counter, "counter")
        self.word = "back"
        self.counter = counter

    def __str__(self):
        return f"back {self.counter}"

    def __eq__(self, other):
        return same_row(self, other)


class Ref(Row):
    """A reference to a note with a label."""

    def __init__(self, label):
        need_name(label, "label")
        self.word = "ref"
        self.label = label

    def __str__(self):
        return f"ref {self.label}"

    def __eq__(self, other):
        return same_row(self, other)


class Put(Row):
    """A part is put in."""

    def __init__(self, part):
        need_name(part, "part")
        self.word = "put"
        self.part = part

    def __str__(self):
        return f"put {self.part}"

    def __eq__(self, other):
        return same_row(self, other)


class Open(Row):
    """An open place, for a part to come."""

    def __init__(self, name):
        need_name(name, "name")
        self.word = "open"
        self.name = name

    def __str__(self):
        return f"open {self.name}"

    def __eq__(self, other):
        return same_row(self, other)


def read_number(text):
    """Return the number with these digits; InvalidText(0) if there is none."""
    # Not isdigit: it takes digits from outside 0 to 9, too.
    if not 1 <= len(text) <= MOST_DIGITS or not all(["0" <= digit <= "9" for digit in text]):
        raise InvalidText(0)
    if text[0] == "0" and text != "0":
        raise InvalidText(0)
    return int(text)


def row_of_two(word, name):
    """Return the row with these two words; its errors are those of the constructors."""
    if word == "note":
        return Note(name)
    if word == "keep":
        return Keep(name)
    if word == "back":
        return Back(name)
    if word == "ref":
        return Ref(name)
    if word == "put":
        return Put(name)
    if word == "open":
        return Open(name)
    raise InvalidText(0)


def row_of_three(word, counter, last):
    """Return the row with these three words; its errors are those of the constructors."""
    # Without a label there is no blank behind the counter either.
    if word == "note" and last != "":
        return Note(counter, last)
    if word == "skip":
        return Skip(counter, read_number(last))
    if word == "set":
        return Set(counter, read_number(last))
    raise InvalidText(0)


def read_row(text):
    """Return the row with a text; InvalidText(0) if there is none."""
    words = text.split(" ")
    try:
        if len(words) == 2:
            return row_of_two(words[0], words[1])
        if len(words) == 3:
            return row_of_three(words[0], words[1], words[2])
    except InvalidRow:
        raise InvalidText(0) from None
    raise InvalidText(0)
