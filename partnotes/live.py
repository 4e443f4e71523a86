"""Live books: books that people write, with all changes kept so that they can be taken back."""

from partnotes.checks import is_index
from partnotes.errors import InvalidBook, InvalidRow, NoPlace, Refused
from partnotes.numbers import Filling, play
from partnotes.rows import Row


def with_row(book, at, row):
    """Return a book with any value put ahead of the row of the text at any value."""
    text = book.parts[-1]
    if not is_index(at, len(text.rows) + 1):
        raise NoPlace(at)
    if not isinstance(row, Row):
        raise InvalidRow("row")
    return book.having(text.name, at, row)


def with_all(book, rows):
    """Return a book with all of some values put at the end of the text; Refused(at) for the first that cannot be."""
    for at, row in enumerate(rows):
        try:
            book = with_row(book, len(book.parts[-1].rows), row)
        except (InvalidRow, InvalidBook) as error:
            raise Refused(at) from error
    return book


class Live:
    """A book and leaves, and those from before each change."""

    def __init__(self, book, leaves):
        self.state = (book, leaves)
        self.past = ()

    @property
    def book(self):
        """The book as it is now."""
        return self.state[0]

    @property
    def leaves(self):
        """The leaves as they are now."""
        return self.state[1]

    def change(self, book, leaves):
        """Take other ones; this can be taken back."""
        self.past = (*self.past, self.state)
        self.state = (book, leaves)

    def insert(self, at, row):
        """Put a row into the text, ahead of the one with an index, or at the end."""
        self.change(with_row(self.book, at, row), self.leaves)

    def remove(self, at):
        """Take the row with an index out of the text, and return it."""
        text = self.book.parts[-1]
        if not is_index(at, len(text.rows)):
            raise NoPlace(at)
        self.change(self.book.without(text.name, at), self.leaves)
        return text.rows[at]

    def several(self, rows):
        """Put all rows at the end of the text, or none; Refused(at) for the first one that cannot be put."""
        self.change(with_all(self.book, rows), self.leaves)

    def use(self, leaves):
        """Set the leaves."""
        self.change(self.book, leaves)

    def prints(self, at):
        """Return what the note with a number prints without a filling."""
        notes = play(self.book, Filling()).notes
        if not is_index(at, len(notes)):
            raise NoPlace(at)
        return notes[at][1]

    def __len__(self):
        return len(self.past)

    def undo(self):
        """Take back the last change; return whether there was one."""
        if len(self.past) == 0:
            return False
        self.state = self.past[-1]
        self.past = self.past[:-1]
        return True

    def within(self, work):
        """Return what some work with this live book returns; afterwards this is as it was before."""
        state = self.state
        past = self.past
        try:
            return work(self)
        finally:
            self.state, self.past = state, past
