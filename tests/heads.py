"""Counters, and books of one part, for the tests of what can happen."""

from partnotes.books import Book

ONE = ["counter c"]
TWO = ["counter c", "counter f under c"]
THREE = ["counter c", "counter f under c", "counter r under f"]
SIDE = ["counter c", "counter f under c", "counter r under c"]
APART = ["counter c", "counter f", "counter r"]

# Triples of leaves.
ON = ("x", "c", "on")
ANY = ("x", "c", "any")

# The book of the document's overview.
LINES = [
    "counter c", "counter f under c", "part pic", "note f", "note f", "part book", "note c", "put pic", "keep f",
    "open x", "back f", "put pic",
]


def book_of(rows, head=ONE):
    """The book of these counters and of a text with these rows."""
    return Book.read("\n".join([*head, "part text", *rows]))
