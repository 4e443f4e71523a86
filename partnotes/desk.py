"""Desks: live books that are asked by commands."""

from partnotes.books import Book
from partnotes.checks import is_name
from partnotes.deciding import example, faults
from partnotes.errors import InvalidCommand, InvalidText
from partnotes.leaves import LEAVE_WORDS, Leaves
from partnotes.live import Live
from partnotes.numbers import FAULTS
from partnotes.rows import read_number, read_row

MOST_DIGITS = 4


def need(condition):
    """Raise InvalidCommand if something is not so."""
    if not condition:
        raise InvalidCommand()


def read_at(word):
    """Return the number that a word of a command tells."""
    need(len(word) <= MOST_DIGITS)
    try:
        return read_number(word)
    except InvalidText:
        raise InvalidCommand() from None


def read_last(words):
    """Return the row that the last words of a command tell."""
    try:
        return read_row(" ".join(words))
    except InvalidText:
        raise InvalidCommand() from None


def rows_told(live):
    """Return how many rows the text has, as a text."""
    return str(len(live.book.parts[-1].rows))


def say_book(desk, words):
    """Begin a new live book."""
    need(len(words) > 1)
    text = " ".join(words[1:])
    desk.live = Live(Book.read(text.replace(" ; ", "\n")), Leaves())
    return rows_told(desk.live)


def say_leave(desk, words):
    """Allow something, too."""
    need(len(words) == 4)
    name, counter, word = words[1:]
    need(is_name(name) and is_name(counter) and word in LEAVE_WORDS)
    desk.live.use(desk.live.leaves | Leaves([(name, counter, word)]))
    return str(desk.live.leaves)


def say_insert(desk, words):
    """Put a row into the text."""
    need(len(words) > 2)
    at = read_at(words[1])
    row = read_last(words[2:])
    desk.live.insert(at, row)
    return rows_told(desk.live)


def say_remove(desk, words):
    """Take a row out of the text."""
    need(len(words) == 2)
    return str(desk.live.remove(read_at(words[1])))


def say_print(desk, words):
    """Tell the numbers of a note."""
    need(len(words) == 2)
    return ".".join([str(number) for number in desk.live.prints(read_at(words[1]))])


def say_faults(desk, words):
    """Tell the faults that happen."""
    need(len(words) == 1)
    found = faults(desk.live.book, desk.live.leaves)
    if len(found) == 0:
        return "none"
    return " ".join(found)


def say_example(desk, words):
    """Tell a filling with which a fault is there."""
    need(len(words) == 2 and words[1] in FAULTS)
    found = example(desk.live.book, desk.live.leaves, words[1])
    if found is None:
        return "never"
    return str(found)


def say_undo(desk, words):
    """Take back the last change."""
    need(len(words) == 1)
    if desk.live.undo():
        return "undone"
    return "nothing"


ACTIONS = {
    "book": say_book,
    "leave": say_leave,
    "insert": say_insert,
    "remove": say_remove,
    "print": say_print,
    "faults": say_faults,
    "example": say_example,
    "undo": say_undo,
}


class Desk:
    """A live book, or None, that is asked by commands."""

    def __init__(self):
        self.live = None

    def say(self, command):
        """Execute a command, and return the text of its result; InvalidCommand for any value that is none."""
        need(isinstance(command, str) and "\n" not in command)
        words = command.split(" ")
        need("" not in words and words[0] in ACTIONS)
        need(words[0] == "book" or self.live is not None)
        action = ACTIONS[words[0]]
        return action(self, words)
