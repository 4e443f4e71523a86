"""Point 20: whether two books print the same, and which rows make no difference."""

import random
import unittest

from partnotes.books import Book, Part
from partnotes.comparing import alike, needless, parting
from partnotes.errors import Mismatch
from partnotes.leaves import Leaves
from partnotes.numbers import Filling
from partnotes.rows import Open
from tests import drawn, model
from tests.heads import ANY, ON, ONE, SIDE, TWO, book_of


class Compared(unittest.TestCase):
    def check(self, p, q, leaves, wanted):
        """Check either way round whether two books are alike, and the told filling."""
        allowed = Leaves(leaves)
        for one, other in ((p, q), (q, p)):
            self.assertIs(alike(one, other, allowed), wanted, (str(p), str(q), leaves))
            told = parting(one, other, allowed)
            if wanted:
                self.assertIsNone(told)
            else:
                self.assertIsInstance(told, Filling)
                self.assertTrue(allowed.allow(one, told) and allowed.allow(other, told))
                self.assertNotEqual(drawn.shown(one, told), drawn.shown(other, told), str(told))

    def rows(self, ours, theirs, leaves, wanted, head=ONE):
        """Check two texts."""
        self.check(book_of(ours, head), book_of(theirs, head), leaves, wanted)


class Alike(Compared):
    def test_a_book_and_itself(self):
        dice = random.Random(1)
        for text, book, leaves in drawn.some_books(dice, 40, 10 ** 9):
            self.check(book, Book.read(text), leaves.pairs, True)

    def test_other_parts_with_one_unrolled_text(self):
        p = Book.read("counter c\npart a\nnote c\npart b\nput a\nopen x\nput a")
        q = Book.read("counter c\npart z\nnote c\nopen x\nnote c")
        self.check(p, q, [ANY], True)

    def test_books_without_notes(self):
        self.rows([], ["set c 4", "keep c"], [ANY], True)
        self.rows(["open x", "open x"], ["open x"], [ANY], True)
        self.check(Book([], [Part("a")]), Book([], [Part("b"), Part("c")]), [], True)

    def test_a_row_that_does_nothing(self):
        rows = ["note c", "open x", "note c", "open x"]
        for row in ("keep c", "back f", "set f 9", "skip f 2", "open x"):
            for leaves in ([], [ON], [ANY]):
                self.rows(rows, [*rows, row], leaves, True, ["counter c", "counter f"])
        self.rows(rows, ["set c 0", *rows], [ANY], True)
        self.rows(rows, ["back c", *rows], [ANY], True)

    def test_labels_are_not_printed(self):
        self.rows(["note c a", "ref a"], ["note c b", "ref b"], [ANY], True)
        self.rows(["note c a"], ["note c"], [ANY], True)

    def test_references_in_other_places(self):
        self.rows(["note c a", "ref a", "open x", "note c"], ["note c a", "open x", "note c", "ref a"], [ANY], True)


class Parting(Compared):
    def test_other_notes(self):
        self.rows(["note c"], ["note c", "note c"], [], False)
        self.rows(["note c"], [], [], False)
        self.rows(["note c"], ["note f"], [], False, ["counter c", "counter f"])
        self.rows(["note c", "note f"], ["note f", "note c"], [], False, ["counter c", "counter f"])

    def test_other_references(self):
        self.rows(["note c a"], ["note c a", "ref a"], [], False)
        self.rows(["note c a", "ref a"], ["note c a", "ref a", "ref a"], [], False)
        self.rows(["note c a", "note c b", "ref a"], ["note c a", "note c b", "ref b"], [], False)
        self.rows(["note c a", "note c b", "ref a", "ref b"], ["note c a", "note c b", "ref b", "ref a"], [], False)

    def test_numbers(self):
        self.rows(["set c 3", "note c"], ["set c 4", "note c"], [], False)
        self.rows(["set c 3", "note c"], ["skip c 3", "note c"], [ANY], True)
        self.rows(["open x", "set c 3", "note c"], ["open x", "skip c 3", "note c"], [], True)
        self.rows(["open x", "set c 3", "note c"], ["open x", "skip c 3", "note c"], [ON], False)
        self.rows(["skip c 1", "skip c 2", "open x", "note c"], ["skip c 3", "open x", "note c"], [ANY], True)

    def test_open_places(self):
        self.rows(["open x", "note c"], ["note c", "open x"], [], True)
        self.rows(["open x", "note c"], ["note c", "open x"], [ON], False)
        self.rows(["open x", "note c"], ["open x", "open x", "note c"], [ON], False)
        self.rows(["set c 0", "open x", "note c"], ["set c 0", "open x", "open x", "note c"], [ANY], False)
        self.rows(["open y", "open x", "note c"], ["open x", "open y", "note c"], [ON, ("y", "c", "on")], True)
        self.rows(["open y", "open x", "note c"], ["open x", "open y", "note c"], [ON, ("y", "c", "any")], False)

    def test_what_only_a_set_parts(self):
        ours, theirs = ["keep c", "open x", "note c"], ["open x", "keep c", "note c"]
        self.rows(ours, theirs, [ANY], True)
        self.rows([*ours, "back c", "note c"], [*theirs, "back c", "note c"], [ON], False)
        rows = ["note f", "open x", "set c 1", "note f"], ["note f", "set c 1", "open x", "set c 1", "note f"]
        self.rows(*rows, [("x", "c", "any"), ("x", "f", "any")], True, TWO)

    def test_a_counter_that_starts_anew(self):
        ours = ["note f", "open x", "set c 4", "note f"]
        theirs = ["note f", "open x", "set c 4", "set f 1", "note f"]
        self.rows(ours, theirs, [ANY], False, TWO)
        self.rows(ours, theirs, [], True, TWO)
        self.rows(["open x", "set f 0", "note f"], ["open x", "note f"], [ANY], True, TWO)

    def test_references_to_notes_that_print_the_same(self):
        ours = ["note c a", "keep c", "open x", "set c 0", "note c b", "ref a"]
        theirs = [*ours[:-1], "ref b"]
        self.rows(ours, theirs, [ANY], True)
        ours = ["note c a", "set c 0", "open x", "note c b", "ref a"]
        theirs = [*ours[:-1], "ref b"]
        self.rows(ours, theirs, [], True)
        self.rows(ours, theirs, [ON], False)

    def test_references_to_notes_of_other_counters(self):
        head = ["counter c", "counter f"]
        ours = ["note c a", "note f b", "open x", "ref a"]
        self.rows(ours, [*ours[:-1], "ref b"], [ANY, ("x", "f", "any")], True, head)
        ours = ["open x", "note c a", "note f b", "ref a"]
        theirs = [*ours[:-1], "ref b"]
        self.rows(ours, theirs, [], True, head)
        for leaves in ([ON], [("x", "f", "on")], [ON, ("x", "f", "on")], [ANY, ("x", "f", "any")]):
            self.rows(ours, theirs, leaves, False, head)

    def test_references_to_longer_prints(self):
        ours = ["note c a", "note f b", "ref a"]
        self.rows(ours, [*ours[:-1], "ref b"], [], False, TWO)

    def test_references_to_counters_that_start_anew_together(self):
        ours = ["set f 0", "set r 0", "open x", "note f a", "note r b", "ref a"]
        theirs = [*ours[:-1], "ref b"]
        self.rows(ours, theirs, [ON], True, SIDE)
        self.rows(ours, theirs, [ANY], True, SIDE)
        self.rows(ours, theirs, [ON, ("x", "r", "on")], False, SIDE)
        self.rows(["set f 3", *ours[1:]], ["set f 3", *theirs[1:]], [ON], False, SIDE)
        # Both are at 5, or both start anew.
        ours = ["set f 5", "set r 5", "open x", "note f a", "note r b", "ref a"]
        theirs = [*ours[:-1], "ref b"]
        self.rows(ours, theirs, [ON], True, SIDE)
        self.rows(ours, theirs, [("x", "f", "on")], False, SIDE)

    def test_leaves_that_mean_nothing(self):
        rows = ["open x", "note c"], ["note c", "open x"]
        self.rows(*rows, [("y", "c", "any"), ("x", "f", "any")], True)
        self.rows(*rows, [("y", "c", "any"), ("x", "f", "any"), ON], False)


class Mismatches(unittest.TestCase):
    def check(self, p, q):
        for leaves in (Leaves(), Leaves([ON, ("y", "f", "any")])):
            for call in (alike, parting):
                self.assertRaises(Mismatch, call, p, q, leaves)
                self.assertRaises(Mismatch, call, q, p, leaves)

    def test_counters(self):
        rows = ["open x"]
        heads = [[], ONE, ["counter f"], ["counter c", "counter f"], ["counter f", "counter c"], TWO, SIDE]
        for p in heads:
            for q in heads:
                if p != q:
                    self.check(book_of(rows, p), book_of(rows, q))

    def test_uppers(self):
        self.check(book_of(["note c"], TWO), book_of(["note c"], ["counter c", "counter f"]))
        under = ["counter c", "counter f under c", "counter r under f"]
        self.check(book_of([], SIDE), book_of([], under))

    def test_names_of_open_places(self):
        texts = [[], ["open x"], ["open y"], ["open x", "open y"]]
        for p in texts:
            for q in texts:
                if p != q:
                    self.check(book_of(p), book_of(q))

    def test_names_are_those_of_the_unrolled_text(self):
        p = Book.read("counter c\npart a\nopen y\npart text\nopen x")
        self.assertIs(alike(p, book_of(["open x", "open x"]), Leaves([ANY])), True)
        self.check(p, book_of(["open x", "open y"]))


class Needless(unittest.TestCase):
    def check(self, rows, leaves, wanted, head=ONE):
        book, allowed = book_of(rows, head), Leaves(leaves)
        found = needless(book, allowed)
        self.assertIs(type(found), tuple)
        self.assertEqual(found, wanted, (rows, leaves))
        for at, row in enumerate(book.parts[-1].rows):
            if row.word not in ("note", "ref", "put"):
                other = book.without("text", at)
                same = other.names == book.names and alike(book, other, allowed)
                self.assertIs(same, at in found)

    def test_nothing(self):
        for rows in ([], ["note c"], ["note c a", "ref a"], ["open x"], ["open x", "note c"]):
            self.check(rows, [ON], ())

    def test_sets_that_are_set_again(self):
        self.check(["set c 3", "set c 4", "note c"], [], (0,))
        self.check(["set c 3", "open x", "set c 4", "note c"], [ANY], (0,))
        self.check(["set c 0", "note c"], [], (0,))
        # Each alone can be left out, both of them not.
        self.check(["set c 4", "set c 4", "note c"], [], (0, 1))

    def test_keeps_that_are_never_given_back(self):
        self.check(["keep c", "note c"], [ANY], (0,))
        self.check(["keep c", "note c", "keep c", "open x", "back c", "note c"], [ON], (0,))
        self.check(["keep c", "note c", "open x", "back c", "note c"], [ON], (0,))
        self.check(["note c", "keep c", "open x", "back c", "note c"], [ON], ())
        self.check(["note c", "keep c", "open x", "back c", "note c"], [], (3,))

    def test_skips_at_the_end(self):
        self.check(["note c", "skip c 3"], [], (1,))
        self.check(["skip c 3", "note c"], [], ())
        self.check(["note f", "skip f 3", "note c", "note f"], [], (1,), TWO)
        self.check(["note f", "skip c 1", "set c 0", "note f"], [], (), TWO)

    def test_open_places(self):
        self.check(["open x", "note c", "open x"], [ON], (2,))
        self.check(["note c", "open x"], [ON], ())
        self.check(["open x", "open x", "note c"], [ANY], ())
        self.check(["open x", "open x", "set c 1", "note c"], [ANY], (0, 1))
        self.check(["open x", "set c 0", "open x", "note c"], [ON], (0,))
        self.check(["open x", "open y", "note c", "open x", "open y"], [ON], (1, 3, 4))

    def test_an_open_place_in_a_part(self):
        book = Book.read("counter c\npart a\nopen x\npart text\nput a\nopen x\nset c 1\nnote c")
        self.assertEqual(needless(book, Leaves([ANY])), (1,))
        self.assertEqual(needless(book, Leaves()), (1,))

    def test_notes_references_and_parts_are_not_told(self):
        book = Book.read("counter c\npart a\npart text\nput a\nnote c a\nref a\nset c 5\nkeep c")
        self.assertEqual(needless(book, Leaves()), (3, 4))

    def test_leaves_decide(self):
        rows = ["note c", "open x", "set c 1", "note c"]
        self.check(rows, [], (2,))
        self.check(rows, [ON], ())
        rows = ["note c", "note f", "open x", "set f 0", "note f"]
        self.check(rows, [], (), TWO)
        self.check(["note c", "open x", "set f 0", "note f"], [ON], (2,), TWO)
        self.check(["note c", "open x", "set f 0", "note f"], [("x", "f", "on")], (), TWO)

    def test_the_book_without_parts_in_the_text(self):
        self.assertEqual(needless(Book([], [Part("a", [Open("x"), Open("x")])]), Leaves()), (0, 1))
        self.assertEqual(needless(Book([], [Part("a")]), Leaves()), ())


class Tried(unittest.TestCase):
    """Books that are changed a little by chance, with all short fillings."""

    def changed(self, dice, text):
        """The text of a book with another row in place of one, or with other references."""
        lines = text.split("\n")
        counters = [line.split()[1] for line in lines if line.startswith("counter")]
        rows = [at for at, line in enumerate(lines) if line.split()[0] not in ("counter", "part")]
        while True:
            at = dice.choice(rows)
            kept = lines[:]
            kept[at] = drawn.row(dice, counters, "xy", ["skip", "set", "keep", "back", "open", "note", "ref"])
            if dice.random() < 0.2:
                kept = [{"ref cat": "ref dog", "ref dog": "ref cat"}.get(line, line) for line in lines]
            if model.wrong_word("\n".join(kept)) is None:
                return "\n".join(kept)

    def test_books_by_chance(self):
        dice = random.Random(21)
        seen = {True: 0, False: 0}
        for text, book, leaves in drawn.some_books(dice, 250, 450):
            other = Book.read(self.changed(dice, text))
            if other.names != book.names:
                self.assertRaises(Mismatch, alike, book, other, leaves)
                continue
            told = parting(book, other, leaves)
            self.assertIs(alike(book, other, leaves), told is None)
            seen[told is None] += 1
            if told is None:
                for filling in drawn.fillings(book, leaves):
                    self.assertEqual(drawn.shown(book, filling), drawn.shown(other, filling), (text, str(other)))
            else:
                self.assertTrue(leaves.allow(book, told) and leaves.allow(other, told))
                self.assertNotEqual(drawn.shown(book, told), drawn.shown(other, told), (text, str(other)))
        self.assertGreater(min(seen.values()), 30, seen)

    def test_needless_rows_by_chance(self):
        dice = random.Random(22)
        many = 0
        for text, book, leaves in drawn.some_books(dice, 60, 200):
            found = needless(book, leaves)
            many += len(found)
            for at, row in enumerate(book.parts[-1].rows):
                if row.word not in ("note", "ref", "put"):
                    other = book.without("text", at)
                    fillings = drawn.fillings(book, leaves)
                    same = all(drawn.shown(book, one) == drawn.shown(other, one) for one in fillings)
                    # Fillings that part such small books are short.
                    self.assertIs(at in found, same and other.names == book.names, (text, at))
        self.assertGreater(many, 30)


class Results(unittest.TestCase):
    def test_parameters_by_name(self):
        p, q, leaves = book_of(["open x", "note c"]), book_of(["note c", "open x"]), Leaves([ON])
        self.assertIs(alike(leaves=leaves, q=q, p=p), False)
        self.assertEqual(parting(q=q, leaves=leaves, p=p), parting(p, q, leaves))
        self.assertEqual(needless(leaves=leaves, book=book_of(["note c", "keep c"])), (1,))

    def test_the_same_call_twice(self):
        p, q, leaves = book_of(["open x", "note c", "keep c"]), book_of(["note c", "open x"]), Leaves([ON])
        before = str(p), str(q), str(leaves)
        calls = [lambda: alike(p, q, leaves), lambda: alike(p, p, leaves), lambda: parting(p, q, leaves),
                 lambda: parting(q, p, leaves), lambda: parting(p, q, Leaves()), lambda: needless(p, leaves)]
        first = [call() for call in calls]
        self.assertEqual([call() for call in calls], first)
        self.assertEqual([call() for call in calls[::-1]], first[::-1])
        self.assertEqual((str(p), str(q), str(leaves)), before)


if __name__ == "__main__":
    unittest.main()
