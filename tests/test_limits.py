"""Point 3: every call answers within seconds, with arguments as large as they get."""

import random
import time
import unittest

from partnotes.books import Book
from partnotes.comparing import alike, needless
from partnotes.deciding import faults, twins
from partnotes.desk import Desk
from partnotes.leaves import Leaves
from partnotes.mending import starts, widest
from partnotes.numbers import FAULTS, Filling, play
from partnotes.origins import origins, spread, telling
from partnotes.papers import cases, paper, paper_holds
from tests.heads import APART, SIDE, THREE

# A slow machine is to pass, too; a call that tries one filling after another is not.
SECONDS = 20
HEADS = (THREE, APART, SIDE)


def book_with(head, part, text):
    return Book.read("\n".join([*head, "part many", *part, "part text", *text]))


def large_books():
    """Books with 16 notes of one counter, two names, and many open places."""
    keep, back = [f"keep {name}" for name in "cfr"], [f"back {name}" for name in "cfr"]
    for head in HEADS:
        for name in "cfr":
            note = f"note {name}"
            eight = [*[note] * 8, "put many"]
            yield book_with(head, ["open x", "open y"] * 5, [*eight, *eight, "set c 40"])
            yield book_with(head, [note, *keep, "open x", "open y", "open x", *back], ["put many"] * 16)
            yield book_with(head, [*["open x"] * 6, note, *["open y"] * 4], ["put many"] * 16 + ["skip r 40"] * 4)
            yield book_with(head, [*[note] * 16], ["put many", *["open x", "set f 40", "open y"] * 6])


def large_leaves():
    """Leaves that allow everything, or nearly so."""
    pairs = [(name, counter) for name in "xy" for counter in "cfr"]
    yield Leaves([(*pair, "any") for pair in pairs])
    yield Leaves([(*pair, "on") for pair in pairs])
    yield Leaves([(*pair, "any") for pair in pairs if pair[1] != "c"])


class Limits(unittest.TestCase):
    def quick(self, call, *arguments):
        """The result of a call that has to come within seconds."""
        start = time.monotonic()
        result = call(*arguments)
        self.assertLess(time.monotonic() - start, SECONDS, call)
        return result

    def every(self):
        for book in large_books():
            self.assertEqual(len(play(book, Filling()).notes), 16)
            self.assertLessEqual(len(book.unrolled), 200)
            for leaves in large_leaves():
                yield book, leaves

    def test_deciding(self):
        for book, leaves in self.every():
            found = self.quick(faults, book, leaves)
            self.assertEqual("twin" in found, self.quick(twins, book, leaves) != ())

    def test_comparing(self):
        for book, leaves in self.every():
            self.assertIs(self.quick(alike, book, book, leaves), True)
            self.quick(needless, book, leaves)

    def test_origins(self):
        for book, leaves in self.every():
            counter = [row.counter for row in book.unrolled if row.word == "note"][-1]
            self.assertEqual(len(self.quick(spread, book, leaves, 15)), len(book.chain(counter)))
            for prints in ((997,) * len(book.chain(counter)), (1,) * len(book.chain(counter))):
                found = self.quick(origins, book, leaves, counter, prints)
                self.assertIs(self.quick(telling, book, leaves, 15, prints) is not None, 15 in found)

    def test_mending(self):
        for book, leaves in self.every():
            for wanted in (FAULTS, ["twin"], ["fall"]):
                self.quick(widest, book, leaves, wanted)
                self.quick(starts, book, leaves, "c", wanted)
                self.quick(starts, book, leaves, "r", wanted)

    def test_desks(self):
        desk = Desk()
        desk.say("book " + str(next(large_books())).replace("\n", " ; "))
        for step in range(40):
            self.quick(desk.say, f"leave {'xy'[step % 2]} {'cfr'[step % 3]} any")
            self.quick(desk.say, "faults")
        self.assertEqual([desk.say("undo") for step in range(41)], ["undone"] * 40 + ["nothing"])

    def test_papers(self):
        shapes = {True: 0, False: 0}
        for book, leaves in self.every():
            told = self.quick(paper, book, leaves)
            shapes[told is None] += 1
            if told is not None:
                self.assertIs(self.quick(paper_holds, book, leaves, told), True)
        self.assertGreater(min(shapes.values()), 5)

    def test_a_paper_in_any_order(self):
        book = book_with(HEADS[1], ["note c"] * 16, ["put many", "open x", "open y"])
        leaves = next(large_leaves())
        self.assertEqual(len(self.quick(cases, book, leaves)), 4096)
        told = list(self.quick(paper, book, leaves))
        random.Random(3).shuffle(told)
        self.assertIs(self.quick(paper_holds, book, leaves, tuple(told)), True)


if __name__ == "__main__":
    unittest.main()
