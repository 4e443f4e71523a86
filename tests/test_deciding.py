"""Point 15: which faults happen, with which fillings."""

import random
import unittest

from partnotes.books import Book, Part
from partnotes.deciding import example, faults, happens, twins
from partnotes.errors import InvalidFault
from partnotes.leaves import Leaves
from partnotes.numbers import FAULTS, Filling, faults_at, play
from partnotes.rows import Note, Open
from tests import drawn, numbering
from tests.heads import LINES, ONE, THREE, TWO, book_of
from tests.samples import any_values

EVERY = tuple((name, counter, "any") for name in ("x", "y") for counter in ("c", "f", "r"))


class Decided(unittest.TestCase):
    def check(self, rows, leaves, wanted, head=ONE):
        """Check which faults happen, and each example, by the numbers and by those of a model."""
        book, allowed = book_of(rows, head), Leaves(leaves)
        found = faults(book, allowed)
        self.assertIs(type(found), tuple)
        self.assertEqual(found, tuple(wanted.split()), (rows, leaves))
        for fault in FAULTS:
            self.assertIs(happens(book, allowed, fault), fault in found)
            told = example(book, allowed, fault)
            if fault not in found:
                self.assertIsNone(told)
            else:
                self.assertIsInstance(told, Filling)
                self.assertIs(allowed.allow(book, told), True)
                self.assertIn(fault, faults_at(book, told), (rows, str(told)))
                self.assertIn(fault, numbering.faults(str(book), drawn.words_of(told)))


class Without(Decided):
    """Faults that happen without any filling, or not at all."""

    def test_books_without_notes(self):
        for rows in ([], ["open x"], ["set c 3", "open x", "keep c", "back c", "skip c 2"]):
            for leaves in ((), EVERY):
                self.check(rows, leaves, "")
                self.assertEqual(twins(book_of(rows), Leaves(leaves)), ())
        for book in (Book([], [Part("a")]), Book([], [Part("a", [Open("x")])])):
            self.assertEqual((faults(book, Leaves(EVERY)), twins(book, Leaves(EVERY))), ((), ()))

    def test_books_without_open_places(self):
        self.check(["note c", "note c"], EVERY, "")
        self.check(["note c", "set c 0", "note c"], EVERY, "gap twin")
        self.check(["note c", "note c", "set c 1", "note c", "note c"], EVERY, "gap twin")
        self.check(["note c a", "note c", "set c 0", "note c", "ref a"], EVERY, "astray fall gap twin")

    def test_no_leaves(self):
        self.check(["note c", "open x", "note c"], [], "")
        self.check(["open x", "skip c 1", "note c"], [], "gap")
        self.check(["note c a", "open x", "set c 0", "note c", "ref a"], [], "astray gap twin")

    def test_names_and_counters_that_the_book_does_not_have(self):
        leaves = [("y", "c", "any"), ("x", "f", "any"), ("c", "x", "any"), ("q", "q", "on")]
        self.check(["note c", "open x", "note c"], leaves, "")
        self.check(["note c", "open x", "note c"], [*leaves, ("x", "c", "on")], "gap moved")
        self.assertEqual(str(example(book_of(["open x", "note c"]), Leaves([*leaves, ("x", "c", "on")]), "gap")),
                         "x: skip c 1")

    def test_an_open_place_in_a_part_that_is_not_put(self):
        book = Book.read("counter c\npart a\nopen x\npart text\nnote c\nnote c")
        self.assertEqual(faults(book, Leaves(EVERY)), ())


class Each(Decided):
    """Each fault, with "on" and with "any"."""

    def test_moved(self):
        self.check(["note c", "open x", "note f"], [("x", "c", "on")], "moved", TWO)
        self.check(["note c", "open x", "note f"], [("x", "c", "any")], "moved", TWO)
        self.check(["note c", "open x"], [("x", "c", "any")], "")
        self.check(["skip c 1", "note c", "open x", "set c 3", "note c"], [("x", "c", "any")], "gap")

    def test_gap(self):
        self.check(["skip c 1", "note c", "open x"], [("x", "c", "on")], "gap")
        self.check(["skip c 1", "note c", "open x"], [("x", "c", "any")], "gap")
        self.check(["note c", "open x", "note c"], [("x", "c", "on")], "gap moved")

    def test_a_gap_that_only_a_filling_makes(self):
        self.check(["note c", "note f", "open x", "set f 1", "note f"], [], "", TWO)
        self.check(["note c", "note f", "open x", "set f 1", "note f"], [("x", "c", "on")], "gap moved", TWO)

    def test_fall(self):
        rows = ["set c 2", "note f", "set c 1", "set f 0", "note f", "open x"]
        self.check(rows, [("x", "c", "on")], "fall", TWO)
        self.check(rows, [("x", "c", "any")], "fall", TWO)
        self.check(["note c", "note c", "note c", "open x", "note c"], [("x", "c", "any")],
                   "fall gap moved twin")
        self.check(["set c 5", "note c", "open x", "set c 7", "note c"], [("x", "c", "any")], "gap")

    def test_a_fall_that_is_no_twin(self):
        rows = ["open x", "note c", "open x", "open x", "set c 9", "note c", "set c 8", "note c"]
        self.check(["note c", "note c", "set c 2", "note c", "open x", "skip c 1", "note c"], [("x", "c", "on")],
                   "gap moved")
        self.check(rows, [], "fall gap")
        self.check(["set c 4", "open x", "note c", "set c 5", "note c"], [("x", "c", "on")], "fall gap moved twin")
        self.check(["set c 4", "open x", "open x", "note c", "set c 7", "note c"], [("x", "c", "on")],
                   "fall gap moved")

    def test_a_note_that_is_not_the_one_ahead(self):
        rows = ["skip c 4", "note c", "open x", "note c", "note c"]
        self.check(rows, [("x", "c", "on")], "gap moved")
        self.check(rows, [("x", "c", "any")], "fall gap moved twin")

    def test_twin(self):
        # No note prints less than 1, so none falls.
        self.check(["note c", "open x", "note c"], [("x", "c", "any")], "gap moved twin")
        self.check(["note c", "open x", "note c"], [("x", "c", "on")], "gap moved")
        rows = ["note f", "set c 1", "set f 0", "note f", "set c 0", "set f 0", "note f", "open x"]
        self.check(rows, [("x", "f", "on")], "fall twin", TWO)
        self.check(rows, [("x", "f", "any")], "fall twin", TWO)

    def test_astray(self):
        rows = ["note c a", "open x", "note c", "note c", "ref a"]
        self.check(rows, [("x", "c", "on")], "gap moved")
        self.check(rows, [("x", "c", "any")], "astray gap moved twin")

    def test_twins_of_other_notes_are_not_astray(self):
        rows = ["note c a", "note c", "open x", "set c 1", "note c", "ref a"]
        self.check(rows, [("x", "c", "any")], "gap twin")
        rows = ["note c a", "note f", "open x", "note f", "ref a"]
        self.check(rows, [("x", "f", "any")], "gap moved twin", TWO)


class Under(Decided):
    """Counters under others."""

    def test_figures_in_chapters(self):
        rows = ["note c", "note f", "open x", "note c", "note f"]
        for word in ("on", "any"):
            self.check(rows, [("x", "f", word)], "", TWO)
        self.check(rows, [("x", "c", "on")], "gap moved", TWO)
        self.check(rows, [("x", "c", "any")], "gap moved twin", TWO)

    def test_a_counter_that_starts_anew(self):
        rows = ["note c", "note f", "open x", "note f"]
        self.check(rows, [("x", "c", "on")], "moved", TWO)
        self.check(rows, [("x", "c", "on"), ("x", "f", "on")], "gap moved", TWO)
        self.check(rows, [("x", "f", "on")], "gap moved", TWO)
        self.check(rows, [("x", "f", "any")], "gap moved twin", TWO)

    def test_a_counter_that_is_set_does_not_start_others(self):
        rows = ["note c", "note f", "open x", "set c 1", "note f"]
        self.check(rows, [], "", TWO)
        self.check(rows, [("x", "c", "on")], "gap moved twin", TWO)
        self.check(rows, [("x", "c", "any")], "gap moved twin", TWO)
        self.check(["note c", "note f", "open x", "note f"], [("x", "c", "any")], "fall gap moved twin", TWO)
        self.check(["note c", "set f 1", "note f", "open x", "note f"], [("x", "c", "on")], "gap moved", TWO)

    def test_three_counters(self):
        rows = ["note c", "note f", "note r", "open x", "note r"]
        self.check(rows, [("x", "c", "on")], "moved", THREE)
        self.check(rows, [("x", "f", "on")], "moved", THREE)
        self.check(rows, [("x", "r", "on")], "gap moved", THREE)
        self.check(rows, [("x", "f", "on"), ("x", "r", "on")], "gap moved", THREE)

    def test_three_counters_that_start_anew_by_the_topmost_one(self):
        rows = ["note c", "set f 5", "set r 5", "open x", "set c 0", "note r"]
        self.check(rows, [("x", "c", "on")], "gap moved", THREE)
        told = example(book_of(rows, THREE), Leaves([("x", "c", "on")]), "moved")
        self.assertEqual(play(book_of(rows, THREE), told).notes[1], ("r", (0, 0, 1)))

    def test_notes_of_several_counters(self):
        rows = ["note c", "note r", "open x", "note r", "note c"]
        head = ["counter c", "counter r"]
        self.check(rows, [("x", "c", "on")], "gap moved", head)
        self.check(rows, [("x", "r", "any")], "gap moved twin", head)
        self.assertEqual(twins(book_of(rows, head), Leaves([("x", "r", "any")])), ((1, 2),))


class Places(Decided):
    """Places that are passed several times, with one filling for all of them."""

    def test_a_sum_of_many(self):
        rows = ["open x"] * 7 + ["note c", "set c 50", "note c"]
        self.check(rows, [("x", "c", "on")], "fall gap moved")
        rows = ["open x"] * 7 + ["note c", "set c 49", "note c"]
        self.check(rows, [("x", "c", "on")], "fall gap moved twin")
        self.assertEqual(str(example(book_of(rows), Leaves([("x", "c", "on")]), "twin")), "x: skip c 7")

    def test_a_sum_that_only_great_numbers_make(self):
        leaves = [("x", "c", "on"), ("y", "c", "on")]
        head = ["counter c", "part ten", *["open x"] * 10, *["open y"] * 7]
        for number, wanted in ((53, "fall gap moved"), (54, "fall gap moved twin")):
            rows = ["put ten", "note c", f"set c {number}", "note c"]
            self.check(rows, leaves, wanted, head)

    def test_a_difference(self):
        leaves = [("x", "c", "on"), ("y", "c", "on")]
        rows = [*["open x"] * 9, "note c", "set c 40", *["open y"] * 11, "note c"]
        self.check(rows, leaves, "fall gap moved twin")
        told = example(book_of(rows), Leaves(leaves), "twin")
        self.assertEqual(play(book_of(rows), told).notes[0], play(book_of(rows), told).notes[1])

    def test_the_same_number_on_both_sides(self):
        rows = ["open x", "note c", "set c 3", "open x", "note c"]
        self.check(rows, [("x", "c", "on")], "gap moved")
        self.check(rows, [("x", "c", "any")], "gap moved twin")

    def test_places_in_a_part_that_is_put_twice(self):
        head = ["counter c", "part pic", "open x", "note c"]
        self.check(["put pic", "put pic"], [("x", "c", "on")], "gap moved", head)
        self.check(["put pic", "put pic"], [("x", "c", "any")], "gap moved twin", head)

    def test_boxes(self):
        rows = ["note c", "keep c", "open x", "back c", "note c"]
        self.check(rows, [("x", "c", "any")], "")
        rows = ["note c", "open x", "keep c", "set c 0", "back c", "note c"]
        self.check(rows, [("x", "c", "on")], "gap moved")
        rows = ["note c", "open x", "keep c", "open x", "note c", "back c", "note c"]
        self.check(rows, [("x", "c", "on")], "fall gap moved twin")

    def test_a_note_ahead_of_all_places(self):
        self.check(["note c", "open x"], EVERY, "")
        self.check(["open x", "note c"], [("x", "c", "on")], "gap moved")
        self.check(["note c", "note c", "open x", "open y"], EVERY, "")


class References(Decided):
    def test_ahead_of_their_notes(self):
        rows = ["ref a", "note c", "open x", "note c a"]
        self.check(rows, [("x", "c", "any")], "astray gap moved twin")
        self.check(rows, [("x", "c", "on")], "gap moved")

    def test_the_last_note_ahead_is_meant(self):
        self.check(["note c a", "ref a", "note c a"], EVERY, "")
        second = ["note c a", "note c a", "ref a", "set c 0", "note c"]
        self.check(second, [], "fall gap twin")
        self.check([*second, "note c"], [], "astray fall gap twin")

    def test_the_first_note_behind_is_meant(self):
        rows = ["ref a", "note c a", "note c a", "set c {}", "note c"]
        self.check([row.format(0) for row in rows], [], "astray fall gap twin")
        self.check([row.format(1) for row in rows], [], "gap twin")

    def test_books_without_references(self):
        self.check(["note c a", "open x", "note c a"], [("x", "c", "any")], "gap moved twin")


class Twins(unittest.TestCase):
    def test_all_pairs(self):
        book = book_of(["note c", "note c", "open x", "note c", "note c"])
        self.assertEqual(twins(book, Leaves([("x", "c", "any")])), ((0, 2), (1, 2), (1, 3)))
        self.assertEqual(twins(book, Leaves([("x", "c", "on")])), ())
        self.assertIs(type(twins(book, Leaves())), tuple)

    def test_numbers_are_those_of_all_notes(self):
        book = book_of(["note c", "note f", "open x", "note f", "note c"], TWO)
        self.assertEqual(twins(book, Leaves([("x", "f", "any")])), ((1, 2),))
        self.assertEqual(twins(book, Leaves([("x", "c", "on"), ("x", "f", "on")])), ())
        # If chapters go on and are set back, figures start anew in the chapter that they were in.
        self.assertEqual(twins(book, Leaves([("x", "c", "any")])), ((0, 3), (1, 2)))

    def test_pairs_ascend_over_all_counters(self):
        rows = ["note r", "note c", "open x", "note c", "note r", "open x", "note r", "note c"]
        book = book_of(rows, ["counter c", "counter r"])
        every = [("x", "c", "any"), ("x", "r", "any")]
        self.assertEqual(twins(book, Leaves(every)), ((0, 3), (0, 4), (1, 2), (1, 5), (2, 5), (3, 4)))


class Invalid(unittest.TestCase):
    def test_any_values_as_faults(self):
        books = [book_of(["note c", "open x", "note c"]), book_of([]), Book([], [Part("a")])]
        wrong = [value for value in any_values() if value not in FAULTS]
        wrong += [["twin"], ("twin",), [], (), "Twin", "twin ", " twin", "twins", "gap moved", "gaps", "none", b"twin"]
        for value in wrong:
            for book in books:
                for leaves in (Leaves(), Leaves(EVERY)):
                    self.assertRaises(InvalidFault, happens, book, leaves, value)
                    self.assertRaises(InvalidFault, example, book, leaves, value)

    def test_ahead_of_all_else(self):
        self.assertRaises(InvalidFault, happens, None, None, "fault")
        self.assertRaises(InvalidFault, example, None, None, None)


class Document(unittest.TestCase):
    def test_overview(self):
        book = Book.read("\n".join(LINES))
        self.assertEqual(faults(book, Leaves([("x", "f", "on")])), ())
        self.assertEqual(faults(book, Leaves([("x", "c", "on")])), ("gap", "moved"))
        self.assertEqual(faults_at(book, example(book, Leaves([("x", "c", "on")]), "gap")), ("gap", "moved"))
        self.assertIsNone(example(book, Leaves([("x", "f", "on")]), "twin"))

    def test_twins(self):
        odd = Book.read("counter n\npart text\nopen x\nopen x\nnote n\nset n 4\nnote n")
        leaves = Leaves([("x", "n", "on")])
        self.assertEqual(twins(odd, leaves), ((0, 1),))
        self.assertEqual(twins(Book.read(str(odd).replace("set n 4", "set n 5")), leaves), ())


class Compared(unittest.TestCase):
    """What any of all short fillings shows happens; what is told to happen is shown by the told filling."""

    def test_books_by_chance(self):
        dice = random.Random(15)
        seen = {fault: 0 for fault in FAULTS}
        for text, book, leaves in drawn.some_books(dice, 120, 450):
            tried, pairs = set(), set()
            for filling in drawn.fillings(book, leaves):
                tried.update(numbering.faults(text, drawn.words_of(filling)))
                notes = play(book, filling).notes
                pairs.update((i, j) for j in range(len(notes)) for i in range(j) if notes[i] == notes[j])
            found = faults(book, leaves)
            self.assertLessEqual(tried, set(found), (text, str(leaves)))
            self.assertLessEqual(pairs, set(twins(book, leaves)), (text, str(leaves)))
            self.assertEqual(twins(book, leaves) != (), "twin" in found)
            for fault in found:
                told = example(book, leaves, fault)
                self.assertTrue(leaves.allow(book, told))
                self.assertIn(fault, numbering.faults(text, drawn.words_of(told)), (text, str(leaves)))
                seen[fault] += 1
            # Most books are small enough for short fillings to show everything.
            seen["twin"] += set(twins(book, leaves)) == pairs != set()
        self.assertGreater(min(seen.values()), 2, seen)

    def test_more_leaves_let_more_happen(self):
        dice = random.Random(16)
        for text, book, leaves in drawn.some_books(dice, 60, 10 ** 9):
            more = leaves | drawn.any_leaves(dice, book)
            self.assertLessEqual(set(faults(book, leaves)), set(faults(book, more)))
            self.assertLessEqual(set(twins(book, leaves)), set(twins(book, more)))


class Results(unittest.TestCase):
    def test_parameters_by_name(self):
        book, leaves = book_of(["note c", "open x", "note c"]), Leaves([("x", "c", "on")])
        self.assertIs(happens(fault="gap", leaves=leaves, book=book), True)
        self.assertEqual(example(leaves=leaves, fault="gap", book=book), example(book, leaves, "gap"))
        self.assertEqual(faults(leaves=leaves, book=book), ("gap", "moved"))
        self.assertEqual(twins(leaves=Leaves([("x", "c", "any")]), book=book), ((0, 1),))

    def test_the_same_call_twice(self):
        book, other = book_of(["note c a", "open x", "note c", "ref a"]), book_of(["open x", "note c"])
        leaves, more = Leaves([("x", "c", "on")]), Leaves([("x", "c", "any")])
        before = str(book), str(leaves)
        calls = [lambda: faults(book, leaves), lambda: faults(book, more), lambda: twins(book, more)]
        calls += [lambda: faults(other, more), lambda: twins(other, leaves)]
        calls += [lambda fault=fault: example(book, more, fault) for fault in FAULTS]
        calls += [lambda fault=fault: happens(book, leaves, fault) for fault in FAULTS]
        first = [call() for call in calls]
        self.assertEqual([call() for call in calls], first)
        self.assertEqual([call() for call in calls[::-1]], first[::-1])
        self.assertEqual((str(book), str(leaves)), before)

    def test_a_book_that_is_made_otherwise(self):
        book = Book([("c", "")], (Part("text", [Note("c"), Open("x"), Note("c")]),))
        self.assertEqual(faults(book, Leaves((("x", "c", "on"),))), ("gap", "moved"))


if __name__ == "__main__":
    unittest.main()
