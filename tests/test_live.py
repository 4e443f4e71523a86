"""Points 23 and 24: live books, and changes that are taken back."""

import random
import unittest

from partnotes.books import Book, Part
from partnotes.deciding import faults
from partnotes.errors import InvalidBook, InvalidRow, NoPlace, Refused
from partnotes.leaves import Leaves
from partnotes.live import Live
from partnotes.numbers import Filling, play
from partnotes.rows import Keep, Note, Open, Put, Ref, Row, Set, Skip, read_row
from tests import drawn
from tests.samples import any_values, every_row, no_integers

TEXT = "counter c\ncounter f under c\npart pic\nnote f cat\npart text\nnote c dog\nput pic\nopen x\nref cat"
ON = Leaves([("x", "c", "on")])


def live_of(text=TEXT, leaves=ON):
    return Live(Book.read(text), leaves)


def rows_of(live):
    """The texts of the rows of the text."""
    return [str(row) for row in live.book.parts[-1].rows]


def state(live):
    """All that a live book tells."""
    return str(live.book), str(live.leaves), len(live)


class Inserting(unittest.TestCase):
    def test_at_the_first_place_in_the_midst_and_at_the_end(self):
        for at in range(5):
            live = live_of()
            wanted = rows_of(live)
            wanted.insert(at, "skip c 2")
            self.assertIsNone(live.insert(at, Skip("c", 2)))
            self.assertEqual((rows_of(live), len(live)), (wanted, 1))
            self.assertEqual(live.book, Book.read(TEXT).having("text", at, Skip("c", 2)))

    def test_into_an_empty_text(self):
        live = live_of("counter c\npart text")
        for at, row in enumerate([Note("c"), Open("x"), Set("c", 4)]):
            live.insert(at, row)
        self.assertEqual((rows_of(live), len(live)), (["note c", "open x", "set c 4"], 3))

    def test_other_parts_stay(self):
        live = live_of()
        live.insert(0, Note("f"))
        self.assertEqual(live.book.parts[0], Book.read(TEXT).parts[0])
        self.assertEqual((live.book.counters, live.leaves), (Book.read(TEXT).counters, ON))

    def test_places_that_are_none(self):
        for at in [-1, -2, -4, -5, 5, 6, 10 ** 9, True, False, *no_integers()]:
            for row in (Note("c"), Note("q"), None):
                live = live_of()
                with self.assertRaises(NoPlace) as caught:
                    live.insert(at, row)
                self.assertIs(caught.exception.at, at)
                self.assertEqual(state(live), state(live_of()))

    def test_any_values_as_rows(self):
        live = live_of()
        for value in [*any_values(), "note c", Part("pic"), Book.read(TEXT), [Note("c")], (Note("c"),)]:
            if not isinstance(value, Row):
                with self.assertRaises(InvalidRow) as caught:
                    live.insert(1, value)
                self.assertEqual(caught.exception.word, "row")
        self.assertEqual(state(live), state(live_of()))

    def test_rows_that_the_book_cannot_have(self):
        cases = [(Note("q"), "counter"), (Skip("r", 1), "counter"), (Keep("x"), "counter"), (Put("text"), "part"),
                 (Put("more"), "part"), (Ref("cow"), "ref")]
        for row, word in cases:
            for at in (0, 2, 4):
                live = live_of()
                with self.assertRaises(InvalidBook) as caught:
                    live.insert(at, row)
                self.assertEqual(caught.exception.word, word)
                self.assertEqual(state(live), state(live_of()))

    def test_a_place_comes_ahead_of_a_row(self):
        self.assertRaises(NoPlace, live_of().insert, 5, "row")
        self.assertRaises(InvalidRow, live_of().insert, 4, "row")


class Removing(unittest.TestCase):
    def test_at_the_first_place_in_the_midst_and_at_the_end(self):
        text = TEXT.replace("note c dog", "note c\nskip f 1")
        for at in (0, 1, 3, 4):
            live = live_of(text)
            wanted = rows_of(live)
            row = live.remove(at)
            self.assertIsInstance(row, Row)
            self.assertEqual(str(row), wanted.pop(at))
            self.assertEqual((rows_of(live), len(live)), (wanted, 1))

    def test_a_note_that_a_reference_needs(self):
        live = live_of()
        with self.assertRaises(InvalidBook) as caught:
            live.remove(1)
        self.assertEqual(caught.exception.word, "ref")
        self.assertEqual(state(live), state(live_of()))
        self.assertEqual(live.remove(3), Ref("cat"))
        self.assertEqual(live.remove(1), Put("pic"))
        self.assertEqual((rows_of(live), len(live)), (["note c dog", "open x"], 2))

    def test_places_that_are_none(self):
        for at in [-1, -2, -4, 4, 5, 10 ** 9, True, False, *no_integers()]:
            live = live_of()
            with self.assertRaises(NoPlace) as caught:
                live.remove(at)
            self.assertIs(caught.exception.at, at)
            self.assertEqual(state(live), state(live_of()))
        self.assertRaises(NoPlace, live_of("counter c\npart text").remove, 0)


class Several(unittest.TestCase):
    def test_rows(self):
        for kind in (list, tuple):
            live = live_of()
            self.assertIsNone(live.several(kind([Note("c"), Open("y"), Ref("dog")])))
            self.assertEqual(rows_of(live)[4:], ["note c", "open y", "ref dog"])
            self.assertEqual(len(live), 1)

    def test_no_rows(self):
        for rows in ([], ()):
            live = live_of()
            live.several(rows)
            self.assertEqual((str(live.book), len(live)), (TEXT, 1))
            self.assertIs(live.undo(), True)
            self.assertIs(live.undo(), False)

    def test_a_row_that_only_goes_behind_the_one_ahead_of_it(self):
        live = live_of()
        live.several([Note("f", "cow"), Ref("cow")])
        self.assertEqual(rows_of(live)[4:], ["note f cow", "ref cow"])
        self.refused(live, [Ref("ox"), Note("f", "ox")], 0, InvalidBook)

    def refused(self, live, rows, at, cause):
        """Check that rows are refused, and that nothing changes."""
        before = state(live)
        with self.assertRaises(Refused) as caught:
            live.several(rows)
        self.assertEqual(caught.exception.at, at)
        self.assertIs(type(caught.exception.__cause__), cause)
        self.assertEqual(state(live), before)
        return caught.exception.__cause__

    def test_rows_of_which_one_cannot_be_put(self):
        live = live_of()
        for row, word in ((Note("q"), "counter"), (Put("text"), "part"), (Ref("cow"), "ref")):
            for rows, at in (([row], 0), ([Note("c"), row], 1), ([Note("c"), Open("x"), row, Note("c")], 2)):
                self.assertEqual(self.refused(live, rows, at, InvalidBook).word, word)

    def test_any_values_as_rows(self):
        live = live_of()
        for value in [*any_values(), "note c"]:
            if not isinstance(value, Row):
                for rows, at in (([value], 0), ((Note("c"), value), 1), ([Note("c"), value, Note("q")], 1)):
                    self.assertEqual(self.refused(live, rows, at, InvalidRow).word, "row")

    def test_the_first_one_that_cannot_be_put(self):
        self.refused(live_of(), [Note("c"), Ref("cow"), None, Note("q")], 1, InvalidBook)
        self.refused(live_of(), [Note("c"), None, Ref("cow"), Note("q")], 1, InvalidRow)

    def test_rows_that_are_changed_later(self):
        rows = [Note("c")]
        live = live_of()
        live.several(rows)
        rows.append(Note("f"))
        self.assertEqual(rows_of(live)[4:], ["note c"])
        self.assertRaises(Refused, live.several, [*rows, None])
        self.assertEqual(rows, [Note("c"), Note("f")])


class Using(unittest.TestCase):
    def test_leaves(self):
        live = live_of()
        self.assertIsNone(live.use(Leaves()))
        self.assertEqual((live.leaves, len(live)), (Leaves(), 1))
        live.use(live.leaves | Leaves([("y", "c", "any")]))
        self.assertEqual((str(live.leaves), len(live)), ("y c any", 2))

    def test_equal_leaves_are_a_change(self):
        live = live_of()
        live.use(ON)
        live.use(Leaves([("x", "c", "on")]))
        self.assertEqual((live.leaves, len(live)), (ON, 2))
        self.assertEqual([live.undo(), live.undo(), live.undo()], [True, True, False])
        self.assertEqual(live.leaves, ON)

    def test_properties(self):
        book = Book.read(TEXT)
        live = Live(book, ON)
        self.assertEqual((live.book, live.leaves, len(live)), (book, ON, 0))
        live.insert(0, Note("c"))
        self.assertEqual(str(book), TEXT)
        self.assertIsInstance(live.book, Book)
        self.assertEqual(faults(live.book, live.leaves), faults(Book.read(str(live.book)), ON))


class Prints(unittest.TestCase):
    def test_without_a_filling(self):
        live = live_of()
        self.assertEqual([live.prints(at) for at in range(2)], [(1,), (1, 1)])
        live.insert(0, Set("c", 6))
        self.assertEqual([live.prints(at) for at in range(2)], [(7,), (7, 1)])
        live.several([Note("f"), Note("c")])
        self.assertEqual([live.prints(at) for at in range(4)], [(7,), (7, 1), (7, 2), (8,)])
        live.undo()
        self.assertRaises(NoPlace, live.prints, 2)

    def test_places_that_are_none(self):
        live = live_of()
        for at in [-1, -2, 2, 3, 10 ** 9, True, False, *no_integers()]:
            with self.assertRaises(NoPlace) as caught:
                live.prints(at)
            self.assertIs(caught.exception.at, at)
        self.assertRaises(NoPlace, live_of("part text\nopen x").prints, 0)
        self.assertEqual(state(live), state(live_of()))


class Undoing(unittest.TestCase):
    def test_until_nothing_is_left(self):
        live = live_of()
        steps = [lambda: live.insert(0, Note("c")), lambda: live.remove(0)]
        steps += [lambda: live.several([Note("f"), Open("y")]), lambda: live.use(Leaves()), lambda: live.several([])]
        steps += [lambda: live.insert(3, Skip("c", 3))]
        seen = [state(live)]
        for step in steps:
            step()
            seen.append(state(live))
        self.assertEqual([one[2] for one in seen], list(range(7)))
        for wanted in seen[-2::-1]:
            self.assertIs(live.undo(), True)
            self.assertEqual(state(live), wanted)
        for step in range(3):
            self.assertIs(live.undo(), False)
            self.assertEqual(state(live), seen[0])

    def test_calls_that_raise_are_no_changes(self):
        live = live_of()
        live.insert(0, Note("c"))
        for call in (lambda: live.insert(99, Note("c")), lambda: live.insert(0, None), lambda: live.remove(None),
                     lambda: live.several([Note("q")]), lambda: live.prints(-1)):
            self.assertRaises((NoPlace, InvalidRow, Refused), call)
        self.assertEqual(len(live), 1)
        self.assertIs(live.undo(), True)
        self.assertEqual(state(live), state(live_of()))

    def test_changes_behind_one_that_is_taken_back(self):
        live = live_of()
        live.insert(0, Note("c"))
        live.undo()
        live.insert(0, Note("f"))
        self.assertEqual((rows_of(live)[0], len(live)), ("note f", 1))
        live.undo()
        self.assertEqual(state(live), state(live_of()))

    def test_many_changes(self):
        live = live_of("counter c\npart text")
        for at in range(20):
            live.insert(0, Note("c"))
        for at in range(20):
            live.remove(0)
        self.assertEqual(len(live), 40)
        for at in range(20):
            live.undo()
        self.assertEqual((len(live), len(rows_of(live)), live.prints(19)), (20, 20, (20,)))

    def test_by_chance(self):
        dice = random.Random(27)
        for text, book, leaves in drawn.some_books(dice, 20, 10 ** 9):
            live = Live(book, leaves)
            seen = [state(live)]
            for step in range(20):
                row = read_row(drawn.row(dice, ["c"], "xy", ["note", "open", "skip", "set", "keep", "ref"]))
                at = dice.randint(0, len(rows_of(live)))
                changes = [lambda: live.insert(at, row), lambda: live.remove(at), lambda: live.several([row, row])]
                changes += [lambda: live.use(drawn.any_leaves(dice, book))]
                try:
                    dice.choice(changes)()
                    seen.append(state(live))
                except (InvalidBook, NoPlace, Refused):
                    self.assertEqual(state(live), seen[-1])
                if dice.random() < 0.2:
                    self.assertIs(live.undo(), len(seen) > 1)
                    seen = seen[:-1] or seen
                self.assertEqual(state(live), seen[-1])
                self.assertEqual(len(live), len(seen) - 1)


class Within(unittest.TestCase):
    def test_the_result(self):
        live = live_of()
        for value in [None, 0, "text", [1], live, *every_row()]:
            self.assertIs(live.within(lambda one: value), value)
        self.assertIs(live.within(lambda one: one), live)
        self.assertEqual(state(live), state(live_of()))

    def test_changes_are_gone_afterwards(self):
        live = live_of()
        live.insert(0, Note("c"))
        before = state(live)

        def work(one):
            one.insert(0, Note("f"))
            one.use(Leaves())
            one.several([Note("c"), Note("c")])
            return len(one), faults(one.book, one.leaves), one.prints(0)

        self.assertEqual(live.within(work)[0], 4)
        self.assertEqual(state(live), before)
        self.assertEqual([live.undo(), live.undo()], [True, False])
        self.assertEqual(state(live), state(live_of()))

    def test_changes_that_are_taken_back_within(self):
        live = live_of()
        live.insert(0, Note("c"))
        live.use(Leaves())
        before = state(live)

        def work(one):
            found = [one.undo(), one.undo(), one.undo()]
            one.insert(0, Skip("c", 9))
            return found, state(one)

        found, inner = live.within(work)
        self.assertEqual(found, [True, True, False])
        self.assertEqual(inner[1:], ("x c on", 1))
        self.assertEqual(state(live), before)
        self.assertEqual([live.undo(), live.undo(), live.undo()], [True, True, False])
        self.assertEqual(state(live), state(live_of()))

    def test_errors_go_on(self):
        live = live_of()
        live.insert(0, Note("c"))
        before = state(live)

        def work(one):
            one.undo()
            one.insert(0, Note("f"))
            one.insert(0, Note("f"))
            raise ZeroDivisionError("within")

        for step in range(2):
            with self.assertRaises(ZeroDivisionError) as caught:
                live.within(work)
            self.assertEqual(str(caught.exception), "within")
            self.assertEqual(state(live), before)
        self.assertRaises(NoPlace, live.within, lambda one: one.remove(-1))
        self.assertRaises(Refused, live.within, lambda one: [one.use(Leaves()), one.several([None])])
        self.assertEqual(state(live), before)

    def test_within_in_within(self):
        live = live_of()
        live.use(Leaves())
        told = []

        def inner(one):
            one.insert(0, Note("f"))
            one.undo()
            one.undo()
            told.append(state(one))
            raise KeyError("inner")

        def outer(one):
            one.insert(0, Note("c"))
            before = state(one)
            self.assertRaises(KeyError, one.within, inner)
            told.append(state(one) == before)
            one.insert(0, Note("c"))
            told.append(len(one))
            return "done"

        self.assertEqual(live.within(outer), "done")
        self.assertEqual(told, [(TEXT, "-", 1), True, 3])
        self.assertEqual(state(live), (TEXT, "-", 1))

    def test_what_is_found_within(self):
        live = live_of()
        found = live.within(lambda one: [one.insert(0, Set("c", 4)), faults(one.book, one.leaves), one.prints(0)])
        self.assertEqual(found, [None, ("gap",), (5,)])
        self.assertEqual(live.prints(0), (1,))


class Results(unittest.TestCase):
    def test_parameters_by_name(self):
        live = Live(leaves=ON, book=Book.read(TEXT))
        live.insert(row=Note("c"), at=0)
        self.assertEqual(live.remove(at=0), Note("c"))
        live.several(rows=[Note("c")])
        live.use(leaves=Leaves())
        self.assertEqual(live.prints(at=2), (2,))
        self.assertEqual(live.within(work=lambda one: len(one)), 4)

    def test_the_same_call_twice(self):
        live = live_of()
        calls = [lambda: live.book, lambda: live.leaves, lambda: live.prints(1), lambda: len(live)]
        first = [call() for call in calls]
        self.assertRaises(NoPlace, live.insert, -1, Note("c"))
        live.within(lambda one: one.insert(0, Note("c")))
        play(live.book, Filling())
        self.assertEqual([call() for call in calls[::-1]], first[::-1])

    def test_two_live_books_of_one_book(self):
        book = Book.read(TEXT)
        one, other = Live(book, ON), Live(book, Leaves())
        one.insert(0, Note("c"))
        other.use(ON)
        self.assertEqual((len(rows_of(one)), len(rows_of(other)), str(book)), (5, 4, TEXT))
        self.assertIs(one == other, False)


if __name__ == "__main__":
    unittest.main()
