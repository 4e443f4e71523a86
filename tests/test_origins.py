"""Point 21: which notes print given numbers, and what a note can print."""

import itertools
import random
import unittest

from partnotes.books import Book, Part
from partnotes.errors import NoName, NoPlace
from partnotes.leaves import Leaves
from partnotes.numbers import Filling, play
from partnotes.origins import origins, spread, telling
from partnotes.rows import Open
from tests import drawn
from tests.heads import ANY, LINES, ON, ONE, THREE, TWO, book_of
from tests.samples import any_values, no_integers, wrong_names


class Asked(unittest.TestCase):
    def check(self, book, leaves, counter, prints, wanted):
        """Check which notes can print a tuple, and each told filling."""
        allowed = Leaves(leaves)
        found = origins(book, allowed, counter, prints)
        self.assertIs(type(found), tuple)
        self.assertEqual(found, wanted, (counter, prints))
        for at, (name, plain) in enumerate(play(book, Filling()).notes):
            told = telling(book, allowed, at, prints)
            if name == counter:
                self.assertIs(told is not None, at in found)
            if told is not None:
                self.assertIsInstance(told, Filling)
                self.assertIs(allowed.allow(book, told), True)
                self.assertEqual(play(book, told).notes[at], (name, prints))


class Origins(Asked):
    def test_without_open_places(self):
        book = book_of(["note c", "note c", "set c 0", "note c"])
        self.check(book, [ANY], "c", (1,), (0, 2))
        self.check(book, [ANY], "c", (2,), (1,))
        self.check(book, [ANY], "c", (3,), ())
        self.check(book, [ANY], "c", (0,), ())

    def test_a_counter_that_goes_on(self):
        book = book_of(["note c", "open x", "open x", "note c", "note c"])
        self.check(book, [], "c", (2,), (1,))
        self.check(book, [ON], "c", (4,), (1,))
        self.check(book, [ON], "c", (5,), (2,))
        self.check(book, [ON], "c", (1000,), (1,))
        self.check(book, [ON], "c", (999,), (2,))
        self.check(book, [ON], "c", (1,), (0,))

    def test_a_counter_that_is_set(self):
        book = book_of(["note c", "open x", "note c", "note c"])
        self.check(book, [ANY], "c", (1,), (0, 1))
        self.check(book, [ANY], "c", (2,), (1, 2))
        self.check(book, [ANY], "c", (777,), (1, 2))

    def test_a_number_that_only_a_set_prints(self):
        book = book_of(["skip c 9", "open x", "note c"])
        self.check(book, [ON], "c", (3,), ())
        self.check(book, [ANY], "c", (3,), (0,))
        self.check(book, [ON], "c", (11,), (0,))

    def test_notes_behind_a_set(self):
        book = book_of(["open x", "note c", "set c 4", "note c", "open y", "note c"])
        self.check(book, [ANY, ("y", "c", "on")], "c", (5,), (0, 1))
        self.check(book, [ANY, ("y", "c", "on")], "c", (6,), (0, 2))
        self.check(book, [ON], "c", (5,), (0, 1))
        self.check(book, [], "c", (6,), (2,))

    def test_two_names(self):
        book = book_of(["open x"] * 5 + ["open y"] * 3 + ["note c"])
        leaves = [ON, ("y", "c", "on")]
        for number in range(20):
            possible = number > 0 and number - 1 not in (1, 2, 4, 7)
            self.check(book, leaves, "c", (number,), (0,) if possible else ())

    def test_counters_under_others(self):
        book = book_of(["note c", "note f", "open x", "note f", "note c", "note f"], TWO)
        self.check(book, [ON], "f", (1, 1), (1,))
        self.check(book, [ON], "f", (1, 2), (2,))
        self.check(book, [ON], "f", (2, 1), (2, 4))
        self.check(book, [ON], "f", (2, 2), ())
        self.check(book, [ON, ("x", "f", "on")], "f", (2, 2), (2,))
        self.check(book, [ON], "f", (9, 1), (2, 4))
        self.check(book, [ANY], "f", (0, 2), (2,))
        self.check(book, [ANY], "f", (0, 1), (2,))
        self.check(book, [ANY], "f", (1, 1), (1, 2, 4))
        self.check(book, [ON], "c", (9,), (3,))

    def test_three_counters(self):
        book = book_of(["note r", "open x", "note r", "note f", "note r"], THREE)
        leaves = [ON, ("x", "f", "on"), ("x", "r", "on")]
        self.check(book, leaves, "r", (5, 6, 7), (1,))
        self.check(book, leaves, "r", (5, 6, 1), (1, 3))
        self.check(book, leaves, "r", (0, 0, 7), (1,))
        self.check(book, leaves[:1], "r", (5, 0, 1), (1,))
        self.check(book, leaves[:1], "r", (5, 1, 1), (3,))

    def test_notes_of_other_counters_are_not_told(self):
        book = book_of(["note c", "note f", "note c", "note f"], ["counter c", "counter f"])
        self.check(book, [], "c", (1,), (0,))
        self.check(book, [], "f", (1,), (1,))
        self.check(book, [], "f", (2,), (3,))

    def test_a_counter_without_notes(self):
        self.check(book_of(["note c", "open x"], TWO), [ANY], "f", (1, 1), ())
        self.check(book_of([], TWO), [ANY], "c", (1,), ())


class AnyPrints(Asked):
    def test_any_values(self):
        book = book_of(["note c", "note f", "open x", "note f"], TWO)
        for value in [*any_values(), [1], [1, 1], (1, 1, 1), (1,), (), (True, True), (1, True), (True, 1), (1, -1),
                      (-1, 1), (1, None), (1, "1"), "11", ((1, 1),), (1, (1,)), (1, [1])]:
            self.check(book, [ANY, ("x", "f", "any")], "f", value, ())
            if value != (1,):
                self.check(book, [ANY, ("x", "f", "any")], "c", value, ())

    def test_numbers_that_are_bools(self):
        self.check(book_of(["note c"]), [], "c", (True,), ())
        self.check(book_of(["note c"]), [], "c", (1,), (0,))
        self.check(book_of(["set c 2", "note f"], TWO), [], "f", (2, True), ())
        self.check(book_of(["note f"], TWO), [], "f", (False, 1), ())
        self.check(book_of(["note f"], TWO), [], "f", (0, 1), (0,))


class Telling(unittest.TestCase):
    def test_numbers_that_are_no_notes(self):
        books = [book_of([]), book_of(["open x"]), book_of(["note c"]), book_of(["note c", "open x", "note c"])]
        for many, book in zip((0, 0, 1, 2), books):
            for at in (-1, -2, -3, many, many + 1, 10 ** 6, -10 ** 12):
                for leaves in (Leaves(), Leaves([ANY])):
                    for call in (lambda: spread(book, leaves, at), lambda: telling(book, leaves, at, (1,)),
                                 lambda: telling(book, leaves, at, None)):
                        with self.assertRaises(NoPlace) as caught:
                            call()
                        self.assertEqual(caught.exception.at, at)

    def test_values_that_are_no_integers(self):
        book = book_of(["note c", "note c"])
        for at in no_integers():
            self.assertRaises(NoPlace, spread, book, Leaves(), at)
            self.assertRaises(NoPlace, telling, book, Leaves(), at, (1,))

    def test_counters_that_are_none(self):
        book = book_of(["note c", "note f"], TWO)
        for value in [*wrong_names(), "x", "r", "text", "cc"]:
            for prints in ((1,), (1, 1), None):
                with self.assertRaises(NoName) as caught:
                    origins(book, Leaves([ANY]), value, prints)
                self.assertIs(caught.exception.name, value)
        self.assertRaises(NoName, origins, Book([], [Part("a")]), Leaves(), "c", (1,))


class Spread(unittest.TestCase):
    def check(self, rows, leaves, wanted, head=ONE):
        """Check the spreads of all notes."""
        book, allowed = book_of(rows, head), Leaves(leaves)
        many = len(play(book, Filling()).notes)
        self.assertEqual([spread(book, allowed, at) for at in range(many)], wanted)
        for at in range(many):
            self.assertIs(type(spread(book, allowed, at)), tuple)
            self.assertTrue(all(type(one) is tuple for one in spread(book, allowed, at)))

    def test_without_leaves(self):
        self.check(["note c", "open x", "note c"], [], [((1, 1),), ((2, 2),)])
        self.check(["note c", "note f"], [ANY], [((1, 1),), ((1, 1), (1, 1))], TWO)

    def test_no_greatest_number(self):
        self.check(["note c", "open x", "note c"], [ON], [((1, 1),), ((2, None),)])
        self.check(["note c", "open x", "note c"], [ANY], [((1, 1),), ((1, None),)])
        self.check(["skip c 5", "open x", "note c", "set c 3", "note c"], [ANY], [((1, None),), ((4, 4),)])

    def test_a_greatest_number_with_leaves(self):
        self.check(["note c", "keep c", "open x", "back c", "note c"], [ANY], [((1, 1),), ((2, 2),)])
        self.check(["note c", "skip f 4", "open x", "note f"], [ON], [((1, 1),), ((1, None), (1, 5))], TWO)
        self.check(["note c", "skip f 4", "open x", "set c 2", "note f"], [ON], [((1, 1),), ((2, 2), (1, 5))], TWO)
        self.check(["note c", "skip f 4", "open x", "note f"], [ON, ("x", "f", "on")],
                   [((1, 1),), ((1, None), (1, None))], TWO)

    def test_the_last_place_under_two_counters(self):
        rows = ["skip f 2", "skip r 3", "open x", "note r"]
        self.check(rows, [ON], [((0, None), (0, 2), (1, 4))], THREE)
        self.check(rows, [("x", "f", "on")], [((0, 0), (2, None), (1, 4))], THREE)
        self.check(rows, [("x", "f", "any")], [((0, 0), (0, None), (1, 4))], THREE)
        self.check(rows, [("x", "r", "any")], [((0, 0), (2, 2), (1, None))], THREE)


class Tried(unittest.TestCase):
    def test_books_by_chance(self):
        dice = random.Random(23)
        seen = {True: 0, False: 0}
        for text, book, leaves in drawn.some_books(dice, 60, 300):
            notes = [row.counter for row in book.unrolled if row.word == "note"]
            tried = {at: set() for at in range(len(notes))}
            for filling in drawn.fillings(book, leaves):
                for at, (counter, prints) in enumerate(play(book, filling).notes):
                    tried[at].add(prints)
            for at, counter in enumerate(notes):
                size = len(book.chain(counter))
                for prints in [*tried[at], *[tuple(dice.choices(range(8), k=size)) for step in range(3)]]:
                    told = telling(book, leaves, at, prints)
                    self.assertIs(told is not None, at in origins(book, leaves, counter, prints))
                    seen[told is not None] += 1
                    if told is None:
                        self.assertNotIn(prints, tried[at], (text, at))
                    else:
                        self.assertEqual(play(book, told).notes[at][1], prints)
                        self.assertTrue(leaves.allow(book, told))
                self.ends(spread(book, leaves, at), tried[at])
        self.assertGreater(min(seen.values()), 40)

    def ends(self, told, tried):
        """Check a spread by all that a note printed with short fillings."""
        for place, (least, greatest) in enumerate(told):
            numbers = [prints[place] for prints in tried]
            self.assertEqual(min(numbers), least)
            if greatest is not None:
                self.assertEqual(max(numbers), greatest)
            else:
                self.assertGreaterEqual(max(numbers), 3)


class Document(unittest.TestCase):
    def test_examples(self):
        book = Book.read("\n".join(LINES))
        free = Leaves([("x", "c", "on"), ("x", "f", "on")])
        self.assertEqual(origins(book, free, "f", (3, 4)), (4,))
        self.assertEqual(play(book, telling(book, free, 3, (3, 3))).notes[3], ("f", (3, 3)))
        self.assertEqual(spread(book, free, 4), ((1, None), (4, 4)))


class Results(unittest.TestCase):
    def test_parameters_by_name(self):
        book, leaves = book_of(["note c", "open x", "note c"]), Leaves([ON])
        self.assertEqual(origins(prints=(2,), counter="c", leaves=leaves, book=book), (1,))
        self.assertEqual(telling(prints=(4,), at=1, leaves=leaves, book=book), Filling([("x", [*self.skip(2)])]))
        self.assertEqual(spread(at=1, leaves=leaves, book=book), ((2, None),))

    def skip(self, by):
        return Book.read(f"counter c\npart a\nskip c {by}").unrolled

    def test_the_same_call_twice(self):
        book, other = book_of(["note c", "open x", "note c"]), book_of(["open x", "note f"], TWO)
        leaves, more = Leaves([ON]), Leaves([ANY, ("x", "f", "on")])
        calls = [lambda: origins(book, leaves, "c", (2,)), lambda: origins(other, more, "f", (0, 4)),
                 lambda: telling(book, more, 1, (9,)), lambda: telling(other, leaves, 0, (3, 1)),
                 lambda: spread(book, leaves, 1), lambda: spread(other, more, 0)]
        first = [call() for call in calls]
        self.assertEqual([call() for call in calls], first)
        self.assertEqual([call() for call in calls[::-1]], first[::-1])

    def test_great_numbers_of_places(self):
        book = Book([("c", "")], [Part("a", [Open("x")] * 9), Part("b", [*self.note()])])
        self.assertEqual(spread(book, Leaves([ANY]), 0), ((1, 1),))
        for number, places in itertools.product((1000, 991), (9, 10, 11)):
            book = book_of(["open x"] * places + ["note c"])
            wanted = (0,) if (number - 1) % places == 0 else ()
            self.assertEqual(origins(book, Leaves([ON]), "c", (number,)), wanted)

    def note(self):
        return Book.read("counter c\npart a\nnote c").unrolled


if __name__ == "__main__":
    unittest.main()
