"""Points 16 and 17: forms and equations."""

import itertools
import random
import unittest

from partnotes.books import Book
from partnotes.deciding import twins
from partnotes.equations import Solver, apart, difference, less, same
from partnotes.leaves import Leaves
from partnotes.traces import forms_of
from tests.heads import ONE, TWO

MOVES = ("still", "on", "at", "nil")


def worth(form, unknowns):
    return form[0] + sum(factor * unknown for factor, unknown in zip(form[1:], unknowns))


def some_forms():
    """Forms with no, one and two unknown numbers."""
    yield from [(number,) for number in range(-3, 4)]
    yield from itertools.product(range(-9, 10), range(-4, 5))
    yield from itertools.product(range(-9, 10), range(-4, 5), range(-4, 5))
    dice = random.Random(17)
    for step in range(400):
        yield (dice.randint(-30, 30), *[dice.randint(-7, 7) for one in range(dice.choice([2, 3, 3]))])


class Solutions(unittest.TestCase):
    def check(self, solve, holds):
        for form in some_forms():
            found = solve(form)
            tried = [one for one in itertools.product(range(8), repeat=len(form) - 1) if holds(worth(form, one))]
            if found is None:
                self.assertEqual(tried, [], form)
            else:
                self.assertTrue(holds(worth(form, found)), form)
                self.assertEqual(len(found), len(form) - 1)
                self.assertTrue(all(type(one) is int and one >= 0 for one in found), (form, found))

    def test_same(self):
        self.check(same, lambda value: value == 0)

    def test_less(self):
        self.check(less, lambda value: value < 0)

    def test_apart(self):
        self.check(apart, lambda value: value != 0)

    def test_no_unknowns(self):
        self.assertEqual((same((0,)), same((0, 0, 0))), ((), (0, 0)))
        for number in (-5, -1, 1, 7):
            self.assertIsNone(same((number,)))
            self.assertIsNone(same((number, 0, 0)))

    def test_factors_of_both_signs(self):
        """A solution is there exactly if their greatest common divisor divides the number."""
        for one, other in itertools.product(range(1, 13), repeat=2):
            divisor = max(k for k in range(1, 13) if one % k == 0 and other % k == 0)
            for number in range(-40, 41):
                for form in ((number, one, -other), (number, -one, other)):
                    found = same(form)
                    self.assertIs(found is not None, number % divisor == 0)
                    self.assertTrue(found is None or worth(form, found) == 0 <= min(found))

    def test_factors_of_one_sign(self):
        for one, other in itertools.product(range(1, 9), repeat=2):
            for number in range(60):
                sums = any((number - one * k) % other == 0 for k in range(number // one + 1))
                self.assertIs(same((-number, one, other)) is not None, sums, (number, one, other))
                self.assertIs(same((number, -one, -other)) is not None, sums)
                self.assertIs(same((number + 1, one, other)), None)

    def test_great_numbers(self):
        for form in ((-8000, 97, 101), (8000, -97, -101), (7999, 200, -199), (-12345, 199, -200), (5, 90, -91)):
            self.assertEqual(worth(form, same(form)), 0)
        self.assertIsNone(same((-95, 10, 20)))
        self.assertIsNone(same((8001, 180, -198)))
        # 97 and 101 give each number from 96 * 100 on, but not the one ahead of it.
        self.assertIsNone(same((-9599, 97, 101)))
        self.assertEqual(worth((-9600, 97, 101), same((-9600, 97, 101))), 0)

    def test_a_solver_gives_the_same_answers_twice(self):
        solver = Solver()
        forms = list(itertools.product(range(-3, 4), repeat=3))
        first = [[solver.solve(kind, form) for kind in ("same", "less", "apart")] for form in forms]
        self.assertEqual(first, [[solve(form) for solve in (same, less, apart)] for form in forms])
        self.assertEqual(first, [[solver.solve(kind, form) for kind in ("same", "less", "apart")] for form in forms])

    def test_difference(self):
        self.assertEqual(difference((5, 1, 0), (2, 1, 3), 1), (2, 0, -3))


class Forms(unittest.TestCase):
    """What the number of a counter is, case by case."""

    def forms(self, rows, chain=("c",), names=("x",), head=ONE):
        """The forms of the notes, by moves; the form 0 stands behind them."""
        book = Book.read("\n".join([*head, "part text", *rows]))
        choices = list(itertools.product(MOVES, repeat=len(names)))
        found = forms_of([book.unrolled], chain, names, choices)
        for moves in choices:
            self.assertEqual(found[moves][-1], (0,) * (len(names) + 1))
        return {moves: found[moves][:-1] for moves in choices}

    def test_one_place(self):
        forms = self.forms(["note c", "open x", "note c"])
        self.assertEqual(forms[("still",)], [(1, 0), (2, 0)])
        self.assertEqual(forms[("on",)], [(1, 0), (3, 1)])
        self.assertEqual(forms[("at",)], [(1, 0), (1, 1)])
        self.assertEqual(forms[("nil",)], [(1, 0), (1, 0)])

    def test_places_that_are_passed_several_times(self):
        forms = self.forms(["open x"] * 3 + ["note c", "set c 4", "note c", "open x", "note c"])
        self.assertEqual(forms[("on",)], [(4, 3), (5, 0), (7, 1)])
        self.assertEqual(forms[("at",)], [(1, 1), (5, 0), (1, 1)])

    def test_keep_and_back(self):
        forms = self.forms(["keep c", "open x", "note c", "back c", "note c", "open x", "keep c", "note c", "back c"]
                           + ["note c"])
        self.assertEqual(forms[("on",)], [(2, 1), (1, 0), (3, 1), (3, 1)])
        self.assertEqual(forms[("at",)], [(1, 1), (1, 0), (1, 1), (1, 1)])

    def test_two_names(self):
        forms = self.forms(["open x", "open y", "open x", "note c"], names=("x", "y"))
        self.assertEqual(forms[("on", "on")], [(4, 2, 1)])
        self.assertEqual(forms[("on", "at")], [(2, 1, 1)])
        self.assertEqual(forms[("at", "on")], [(1, 1, 0)])
        self.assertEqual(forms[("still", "on")], [(2, 0, 1)])

    def test_an_upper_counter(self):
        forms = self.forms(["note f", "note c", "note f", "open x", "note f"], ("c", "f"), head=TWO)
        self.assertEqual(forms[("still",)], [(1, 0), (0, 0), (1, 0), (2, 0)])
        self.assertEqual(forms[("nil",)], [(1, 0), (0, 0), (1, 0), (1, 0)])

    def test_two_texts(self):
        books = [Book.read(f"counter c\npart text\nset c {to}\nopen x\nnote c") for to in (3, 5)]
        found = forms_of([book.unrolled for book in books], ("c",), ("x",), [("on",)])
        self.assertEqual(found, {("on",): [(5, 1), (7, 1), (0, 0)]})


class Cases(unittest.TestCase):
    """The cases of a counter at an open place, seen by what a note behind it can print."""

    def last(self, rows, leaves, head=ONE):
        """What the last note can print, below 7 at each place."""
        last = len([row for row in rows if row.startswith("note")]) - 1
        counter = rows[-1].split()[1]
        chain = Book.read("\n".join([*head, "part text"])).chain(counter)
        found = []
        for prints in itertools.product(*[range(7)] * (len(chain) - 1), range(1, 7)):
            numbers = (*prints[:-1], prints[-1] - 1)
            probe = [f"set {name} {number}" for name, number in zip(chain, numbers)] + [f"note {counter}"]
            book = Book.read("\n".join([*head, "part text", *rows, *probe]))
            if (last, last + 1) in twins(book, Leaves(leaves)):
                found.append(prints if len(chain) > 1 else prints[0])
        return found

    def test_without_leaves_it_stands_still(self):
        for leaves in ([], [("y", "c", "any")], [("x", "f", "any")]):
            self.assertEqual(self.last(["note c", "open x", "note c"], leaves), [2])

    def test_it_stands_still_or_goes_on(self):
        self.assertEqual(self.last(["note c", "open x", "note c"], [("x", "c", "on")]), [2, 3, 4, 5, 6])

    def test_it_is_at_a_number(self):
        self.assertEqual(self.last(["skip c 3", "open x", "note c"], [("x", "c", "any")]), [1, 2, 3, 4, 5, 6])

    def test_it_starts_anew(self):
        rows = ["note c", "skip f 3", "open x", "note f"]
        self.assertEqual(self.last(rows, [("x", "c", "on")], TWO),
                         [(1, 4), (2, 1), (3, 1), (4, 1), (5, 1), (6, 1)])

    def test_it_starts_anew_and_goes_on(self):
        rows = ["note c", "skip f 3", "open x", "note f"]
        found = self.last(rows, [("x", "c", "on"), ("x", "f", "on")], TWO)
        ahead = [(1, number) for number in range(4, 7)]
        self.assertEqual(found, [*ahead, *itertools.product(range(2, 7), range(1, 7))])

    def test_a_counter_that_is_set_does_not_start_others_anew(self):
        rows = ["note c", "skip f 3", "open x", "keep c", "set c 0", "back c", "note f"]
        found = self.last(["note c", "skip f 3", "open x", "set c 1", "note f"], [("x", "c", "any")], TWO)
        self.assertEqual(found, [(1, 1), (1, 4)])
        found = self.last(rows, [("x", "c", "any")], TWO)
        self.assertEqual(sorted({last for upper, last in found}), [1, 4])
        self.assertEqual(sorted({upper for upper, last in found}), [0, 1, 2, 3, 4, 5, 6])

    def test_a_box_that_is_filled_at_the_number_of_a_place(self):
        rows = ["open x", "keep c", "set c 0", "note c", "back c", "note c"]
        self.assertEqual(self.last(rows, [("x", "c", "on")]), [1, 2, 3, 4, 5, 6])
        book = Book.read("\n".join([*ONE, "part text", *rows, "back c", "note c"]))
        self.assertEqual(twins(book, Leaves([("x", "c", "on")])), ((0, 1), (0, 2), (1, 2)))

    def test_kept_ahead_and_given_back(self):
        rows = ["note c", "keep c", "open x", "back c", "note c"]
        for word in ("on", "any"):
            self.assertEqual(self.last(rows, [("x", "c", word)]), [2])

    def test_two_places_of_one_name_do_the_same(self):
        self.assertEqual(self.last(["open x", "open x", "note c"], [("x", "c", "on")]), [1, 3, 5])
        self.assertEqual(self.last(["open x", "note c", "open x", "note c"], [("x", "c", "on")]), [2, 4, 6])
        self.assertEqual(self.last(["open x", "note c", "open x", "note c"], [("x", "c", "any")]), [1, 2, 3, 4, 5, 6])

    def test_two_names_are_free(self):
        rows = ["open x", "open x", "open x", "open y", "open y", "note c"]
        self.assertEqual(self.last(rows, [("x", "c", "on"), ("y", "c", "on")]), [1, 3, 4, 5, 6])
        self.assertEqual(self.last(rows, [("x", "c", "on")]), [1, 4])

    def test_both_ways_to_be_at_a_number(self):
        """Set alone leaves the counter under it, going on before starts it anew."""
        rows = ["note c", "note f", "open x", "set c 2", "note f"]
        self.assertEqual(self.last(rows, [("x", "c", "any")], TWO), [(2, 1), (2, 2)])
        self.assertEqual(self.last(rows, [("x", "c", "on")], TWO), [(2, 1), (2, 2)])
        self.assertEqual(self.last(rows, [], TWO), [(2, 2)])


class Twins(unittest.TestCase):
    """Equations of two notes."""

    def pairs(self, rows, *leaves, head=ONE):
        return twins(Book.read("\n".join([*head, "part text", *rows])), Leaves(leaves))

    def test_no_unknowns(self):
        self.assertEqual(self.pairs(["note c", "set c 0", "note c"]), ((0, 1),))
        self.assertEqual(self.pairs(["note c", "note c", "open x"], ("x", "c", "any")), ())

    def test_one_sign(self):
        on = ("x", "c", "on")
        for ahead, wanted in ((4, ((0, 1),)), (5, ()), (0, ((0, 1),)), (20, ((0, 1),)), (21, ())):
            rows = ["open x", "open x", "note c", f"set c {ahead}", "note c"]
            self.assertEqual(self.pairs(rows, on), wanted, ahead)

    def test_sums_of_two(self):
        leaves = ("x", "c", "on"), ("y", "c", "on")
        for number in range(30):
            rows = ["open x"] * 3 + ["open y"] * 5 + ["note c", f"set c {number}", "note c"]
            wanted = () if number in (1, 2, 4, 7) else ((0, 1),)
            self.assertEqual(self.pairs(rows, *leaves), wanted, number)

    def test_both_signs_with_a_divisor(self):
        leaves = ("x", "c", "on"), ("y", "c", "on")
        for number in range(13):
            rows = ["open x"] * 4 + ["note c", f"set c {number}", *["open y"] * 6, "note c"]
            wanted = ((0, 1),) if number % 2 == 0 else ()
            self.assertEqual(self.pairs(rows, *leaves), wanted, number)

    def test_more_of_one_name_on_one_side(self):
        on = ("x", "c", "on")
        rows = ["open x", "note c", "set c {}", "open x", "open x", "open x", "note c"]
        for number in range(5):
            # 1 + k and number + 1 + 3 k
            wanted = ((0, 1),) if number == 0 else ()
            self.assertEqual(self.pairs([row.format(number) for row in rows], on), wanted)

    def test_all_places_together(self):
        head = TWO
        rows = ["note c", "note f", "open x", "set c {}", "note f"]
        free = ("x", "f", "any")
        self.assertEqual(self.pairs([row.format(1) for row in rows], free, head=head), ((1, 2),))
        self.assertEqual(self.pairs([row.format(2) for row in rows], free, head=head), ())


if __name__ == "__main__":
    unittest.main()
