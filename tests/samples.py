"""Values that tests try in place of any argument."""

from partnotes.books import Book, Part
from partnotes.desk import Desk
from partnotes.errors import InvalidRow, Mismatch, NoName, NoPlace
from partnotes.leaves import Leaves
from partnotes.live import Live
from partnotes.maps import Map
from partnotes.numbers import Filling, play
from partnotes.rows import Back, Keep, Note, Open, Put, Ref, Set, Skip

NO_NAMES = ("note", "skip", "set", "keep", "back", "ref", "put", "open", "part")

GOOD_NAMES = ("a", "z", "f", "ab", "zz", "cat", "sets", "not", "refs", "zzzz", "aaaa")

WRONG_STRINGS = NO_NAMES + (
    "", " ", "abcde", "counter", "under", "F", "Z", "Ab", "aB", "CAT", "1", "a1", "1a", "a b",
    " a", "a ", "a\n", "\na", "\n", "-", "a-b", "a.", "_", "a_", "`", "{", "\u00e9", "\u00df",
    "\u00aa", "\u0430", "note f", "part a", "0", "12",
)


def nested(depth):
    """A list in a tuple in a list, and so on."""
    value = "f"
    for level in range(depth):
        value = [value] if level % 2 else (value,)
    return value


def every_row():
    """One row of each kind, and a note with a label."""
    return [
        Note("f"), Note("f", "cat"), Skip("f", 2), Set("f", 0), Keep("f"), Back("f"),
        Ref("cat"), Put("pic"), Open("x"),
    ]


def every_object():
    """Objects of all classes of the package."""
    books = [Book([], [Part("a")]), Book([("f", "")], [Part("a", [Note("f")])])]
    fillings = [Filling(), Filling([("x", [Skip("f", 2)])]), Filling([("f", [Set("f", 0)])])]
    played = [play(book, Filling()) for book in books]
    maps = [Map(), Map(("at", 5), ("now", 2))]
    leaves = [Leaves(), Leaves([("x", "f", "on")])]
    errors = [InvalidRow("f"), Mismatch(), NoName("f"), NoPlace(0)]
    parts = [Part("a"), Part("a", [Note("f")])]
    lives = [Live(book, leaves[0]) for book in books]
    return [*every_row(), *parts, *books, *fillings, *played, *maps, *leaves, *lives, Desk(), *errors]


def no_strings():
    """Values of all kinds that are no strings."""
    return [
        None, True, False, 0, 1, 2, -1, 10 ** 12, [], (), ["f"], ("f",), [["f"]], ("f", ""),
        ["f", ""], (None, 1), [0], nested(7), nested(8), *every_object(),
    ]


def wrong_names():
    """Values that are no names."""
    return [*WRONG_STRINGS, *no_strings()]


def no_integers():
    """Values that are no integers."""
    kinds = [value for value in no_strings() if isinstance(value, bool) or not isinstance(value, int)]
    return [*kinds, *WRONG_STRINGS, *GOOD_NAMES]


def any_values():
    """Values of all kinds."""
    return [*GOOD_NAMES, *WRONG_STRINGS, *no_strings()]
