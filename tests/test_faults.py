"""Point 11: the faults of the notes of a book with a filling."""

import random
import unittest

from partnotes.books import Book, Part
from partnotes.errors import InvalidFilling
from partnotes.numbers import Filling, faults_at
from partnotes.rows import Open, Skip
from tests import numbering, texts
from tests.heads import LINES, ONE, TWO


class Faults(unittest.TestCase):
    def check(self, rows, wanted, told="", head=ONE):
        """Check the faults of a text of these rows, with these rows in place of x."""
        book = Book.read("\n".join([*head, "part text", *rows]))
        filled = texts.filling_of({"x": [row.split() for row in told.split(",")] if told else []})
        found = faults_at(book, filled)
        self.assertIs(type(found), tuple)
        self.assertEqual(found, tuple(wanted.split()), (rows, told))


class Faultless(Faults):
    def test_no_notes(self):
        for rows in ([], ["set c 5"], ["skip c 3", "keep c", "back c"], ["open x", "open x"]):
            self.check(rows, "")
            self.check(rows, "", "skip c 1,set c 7")
        self.assertEqual(faults_at(Book([], [Part("a")]), Filling()), ())
        self.assertEqual(faults_at(Book([], [Part("a", [Open("x")])]), Filling([("y", [Skip("c", 1)])])), ())

    def test_no_faults(self):
        self.check(["note c"], "")
        self.check(["note c"] * 5, "")
        self.check(["note c", "note f", "note f", "note c", "note f", "note c", "note c", "note f"], "", head=TWO)
        self.check(["note c", "open x", "note c"], "")
        self.check(["ref a", "note c a", "note c a", "ref a"], "")


class Twin(Faults):
    def test_twin(self):
        self.check(["note c", "set c 0", "note c"], "gap twin")
        self.check(["note c", "note c", "note c", "set c 0", "note c"], "fall gap twin")
        self.check(["note c", "note c", "set c 1", "note c"], "gap twin")

    def test_notes_of_two_counters_may_print_the_same(self):
        self.check(["note c", "note r"], "", head=["counter c", "counter r"])
        self.check(["note c", "note r", "note c", "note r"], "", head=["counter c", "counter r"])

    def test_all_places_of_the_chain_count(self):
        self.check(["note c", "note f", "note c", "note f"], "", head=TWO)
        self.check(["note c", "note f", "keep c", "note c", "back c", "note f"], "gap twin", head=TWO)

    def test_alone(self):
        # An upper number that changes and comes back: each note follows the one ahead of it.
        rows = ["note c", "note f", "note c", "note f", "set c 1", "set f 0", "note f"]
        self.check(rows, "fall twin", head=TWO)


class Astray(Faults):
    def test_astray(self):
        self.check(["note c a", "set c 0", "note c", "ref a"], "astray gap twin")
        self.check(["note c", "set c 0", "ref a", "note c a"], "astray gap twin")

    def test_a_reference_without_a_second_note(self):
        self.check(["note c a", "note c", "set c 1", "note c", "ref a"], "gap twin")
        self.check(["note c a", "ref a", "note c", "note c", "set c 2", "note c"], "gap twin")

    def test_twins_without_references(self):
        self.check(["note c a", "set c 0", "note c a"], "gap twin")

    def test_only_notes_of_its_counter_count(self):
        self.check(["note c a", "note r", "ref a"], "", head=["counter c", "counter r"])
        self.check(["note c a", "note r", "set r 0", "note r", "ref a"], "gap twin", head=["counter c", "counter r"])
        self.check(["note r a", "note c", "set c 0", "note c", "ref a"], "gap twin", head=["counter c", "counter r"])

    def test_the_second_of_two_references(self):
        rows = ["note c a", "note c b", "set c 1", "note c", "ref a", "ref b"]
        self.check(rows, "astray gap twin")
        self.check(rows[:-1], "gap twin")


class Fall(Faults):
    def test_fall(self):
        self.check(["note c", "note c", "set c 0", "note c"], "fall gap twin")
        self.check(["skip c 4", "note c", "set c 2", "note c"], "fall gap")

    def test_an_earlier_note_that_is_not_the_one_ahead(self):
        rows = ["note c", "skip c 7", "note c", "set c 2", "note c", "note c", "note c"]
        self.check(rows, "fall gap")

    def test_upper_numbers_come_first(self):
        rows = ["note c", "note f", "note f", "note c", "note f"]
        self.check(rows, "", head=TWO)
        self.check(["set c 2", "note f", "set c 1", "set f 0", "note f"], "fall", head=TWO)
        self.check(["set c 2", "note f", "set c 1", "set f 4", "note f"], "fall gap", head=TWO)

    def test_chains_of_different_counters_are_not_compared(self):
        self.check(["skip c 4", "note c", "note r"], "gap", head=["counter c", "counter r"])


class Gap(Faults):
    def test_the_first_note_of_a_counter(self):
        self.check(["skip c 1", "note c"], "gap")
        self.check(["set c 0", "note c"], "")
        self.check(["set c 5", "note f"], "", head=TWO)
        self.check(["note c", "skip f 1", "note f"], "gap", head=TWO)
        self.check(["note c", "note c", "note r"], "", head=["counter c", "counter r"])
        self.check(["note c", "skip r 1", "note r"], "gap", head=["counter c", "counter r"])

    def test_the_next_notes(self):
        self.check(["note c", "skip c 1", "note c"], "gap")
        self.check(["note c", "note c", "note c", "set c 3", "note c"], "")
        self.check(["note c", "note c", "note c", "set c 4", "note c"], "gap")

    def test_one_again_is_no_gap_only_if_an_upper_number_changed(self):
        self.check(["note c", "set c 0", "note c"], "gap twin")
        self.check(["note c", "note f", "set f 0", "note f"], "gap twin", head=TWO)
        self.check(["note c", "note f", "note f", "set c 2", "set f 0", "note f"], "", head=TWO)

    def test_upper_numbers_that_change(self):
        self.check(["note c", "note f", "set c 2", "note f"], "gap", head=TWO)
        self.check(["note c", "note f", "set c 2", "set f 1", "note f"], "gap", head=TWO)
        self.check(["note c", "note f", "skip c 5", "note f"], "", head=TWO)
        self.check(["note c", "note f", "note c", "set f 1", "note f"], "gap", head=TWO)

    def test_the_topmost_number_changes(self):
        head = [*TWO, "counter r under f"]
        self.check(["note c", "note f", "note r", "note c", "note f", "note r"], "", head=head)
        self.check(["note c", "note f", "note r", "set c 2", "note r"], "gap", head=head)
        self.check(["note c", "note f", "note r", "set c 2", "set r 0", "note r"], "", head=head)
        self.check(["note c", "note f", "note r", "note f", "note r", "note r"], "", head=head)
        self.check(["note c", "note r", "note r", "skip r 1", "note r"], "gap", head=head)

    def test_notes_of_other_counters_stand_between(self):
        self.check(["note c", "note r", "note r", "note c", "note r"], "", head=["counter c", "counter r"])

    def test_skipped_upper_numbers_are_a_gap_of_their_own_notes_only(self):
        self.check(["note c", "note f", "skip c 3", "note f"], "", head=TWO)
        self.check(["note c", "note f", "skip c 3", "note c", "note f"], "gap", head=TWO)


class Moved(Faults):
    def test_moved(self):
        self.check(["note c", "open x", "note c"], "gap moved", "skip c 1")
        self.check(["open x", "note c"], "gap moved", "skip c 1")
        self.check(["note c", "open x", "note c"], "gap moved", "set c 9")

    def test_alone(self):
        self.check(["note c", "open x", "note f"], "moved", "skip c 1", head=TWO)
        self.check(["skip c 1", "note c", "open x"], "gap", "skip c 1")

    def test_not_with_the_empty_filling(self):
        self.check(["note c", "open x", "set c 7", "note c", "note c"], "gap")

    def test_fillings_that_move_nothing(self):
        self.check(["note c", "open x", "note c"], "", "set c 1")
        self.check(["note c", "open x", "note c"], "", "skip c 7,set c 1")
        self.check(["note c", "keep c", "open x", "back c", "note c"], "", "skip c 7")
        self.check(["note c", "note c", "open x"], "", "skip c 7")

    def test_counters_under_it(self):
        self.check(["note c", "note f", "open x", "note f"], "moved", "skip c 1", head=TWO)
        self.check(["note c", "note f", "open x", "note f"], "gap moved", "set c 2", head=TWO)

    def test_the_last_note_of_many(self):
        self.check(["note c"] * 9 + ["open x", "note c"], "gap moved", "skip c 1")

    def test_only_one_place_of_the_chain(self):
        self.check(["note c", "open x", "note c", "note f"], "gap moved twin", "set c 0", head=TWO)


class Together(Faults):
    def test_all_faults(self):
        rows = ["note c a", "note c", "note c", "open x", "note c", "ref a"]
        self.check(rows, "")
        self.check(rows, "astray fall gap moved twin", "set c 0")
        self.check(rows, "fall gap moved twin", "set c 1")
        self.check(rows, "gap moved", "set c 7")
        self.check(["set c 4", *rows], "fall gap moved", "set c 0")

    def test_the_example(self):
        book = Book.read("\n".join(LINES))
        for told, wanted in (
            ([], ()), ([["skip", "f", "7"]], ()), ([["skip", "c", "1"]], ("gap", "moved")),
            ([["set", "f", "1"]], ()), ([["set", "c", "0"]], ("fall", "gap", "moved")),
        ):
            self.assertEqual(faults_at(book, texts.filling_of({"x": told})), wanted)


class Wrong(unittest.TestCase):
    def test_counters_that_the_book_does_not_have(self):
        book = Book.read("counter c\npart a\nnote c\nopen x\nnote c")
        for told in ({"x": [["skip", "f", "1"]]}, {"x": [["set", "c", "1"], ["set", "f", "1"]]}):
            with self.assertRaises(InvalidFilling) as caught:
                faults_at(book, texts.filling_of(told))
            self.assertEqual(caught.exception.word, "counter")
        self.assertEqual(faults_at(book, texts.filling_of({"y": [["skip", "f", "1"]]})), ())
        self.assertEqual(faults_at(book, texts.filling_of({"f": [["set", "c", "0"]]})), ())


class Compared(unittest.TestCase):
    def test_books_by_chance(self):
        dice = random.Random(11)
        seen = set()
        for step in range(2500):
            text = texts.any_text(dice)
            told = texts.any_filling(dice, text, dice.choice([0, 1, 2]))
            found = faults_at(Book.read(text), texts.filling_of(told))
            self.assertEqual(found, numbering.faults(text, told), (text, told))
            seen.add(found)
        # Faults come in very many mixtures; if they did not, the texts would show little.
        self.assertGreater(len(seen), 10)


if __name__ == "__main__":
    unittest.main()
