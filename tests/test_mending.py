"""Point 22: the widest leaves, and the places where a counter can start, so that no fault happens."""

import itertools
import random
import unittest

from partnotes.books import Book, Part
from partnotes.deciding import faults
from partnotes.errors import InvalidFault, NoName
from partnotes.leaves import Leaves
from partnotes.mending import starts, widest
from partnotes.numbers import FAULTS
from partnotes.rows import Set
from tests import drawn
from tests.heads import ANY, LINES, ON, ONE, TWO, book_of
from tests.samples import any_values, wrong_names


def wrong_faults():
    """Values that are no faults, and sequences in which one of them stands."""
    wrong = [value for value in any_values() if value not in FAULTS]
    wrong += ["Gap", "gap ", "gaps", "none", ("gap",), ["gap"]]
    return [[[value], (value,), ["gap", value], ("twin", "gap", value, "fall")] for value in wrong]


class Widest(unittest.TestCase):
    def check(self, book, leaves, wanted, texts):
        """Check the texts of the widest leaves."""
        found = widest(book, Leaves(leaves), wanted)
        self.assertIs(type(found), tuple)
        self.assertTrue(all(isinstance(one, Leaves) for one in found))
        self.assertEqual([str(one) for one in found], texts, (str(book), wanted))

    def test_no_faults_wanted(self):
        book = book_of(["note c", "set c 0", "note c", "open x", "note c"])
        for leaves, text in (([], "-"), ([ON], "x c on"), ([ANY, ("x", "f", "on")], "x c any; x f on")):
            self.check(book, leaves, [], [text])
            self.check(book, leaves, (), [text])

    def test_one_fault(self):
        book = book_of(["note c", "open x", "note c"])
        self.check(book, [ANY], ["twin"], ["x c on"])
        self.check(book, [ON], ["twin"], ["x c on"])
        self.check(book, [ANY], ["fall"], ["x c any"])
        self.check(book, [], ["twin"], ["-"])

    def test_leaves_none_of_which_is_safe_but_the_empty_ones(self):
        book = book_of(["note c", "open x", "note c"])
        self.check(book, [ANY], ["gap"], ["-"])
        self.check(book, [ANY], ["moved"], ["-"])
        self.check(book, [ON], ["moved"], ["-"])

    def test_two_faults_one_twice_and_in_another_order(self):
        book = book_of(["note c", "note f", "open x", "note f"], TWO)
        leaves = [ON, ("x", "f", "any")]
        self.check(book, leaves, ["twin"], ["x c on; x f on"])
        self.check(book, leaves, ["gap"], ["x c on"])
        for wanted in (["gap", "twin"], ["twin", "gap"], ("twin", "gap", "twin"), ["gap"] * 3, ("gap", "gap", "fall")):
            self.check(book, leaves, wanted, ["x c on"])
        self.check(book, leaves, FAULTS, ["-"])
        self.check(book, leaves, FAULTS[::-1], ["-"])

    def test_a_fault_that_happens_without_any_filling(self):
        book = book_of(["note c", "set c 0", "note c", "open x"])
        self.check(book, [ANY], ["twin"], [])
        self.check(book, [], ["twin"], [])
        self.check(book, [ANY], ["moved", "gap"], [])
        self.check(book, [ANY], ["moved"], ["x c any"])
        self.check(book_of(["skip c 1", "note c"]), [], ["gap"], [])

    def test_two_greatest_leaves(self):
        """A twin comes only if the chapter goes back to 1 and the figure to 0."""
        rows = ["set c 1", "note f", "set c 0", "open x", "set f 5", "open y", "note f"]
        book = book_of(rows, TWO)
        leaves = [ON, ("y", "f", "any")]
        self.assertEqual(faults(book, Leaves(leaves)), ("fall", "gap", "moved", "twin"))
        self.check(book, leaves, ["twin"], ["x c on; y f on", "y f any"])
        self.check(book, leaves, ["twin", "moved"], ["-"])
        for part in (["x c on", "y f on"], ["y f any"]):
            self.check(book, [tuple(text.split()) for text in part], ["twin"], ["; ".join(part)])

    def test_a_counter_that_starts_anew_and_goes_on(self):
        """A twin comes only if the chapter goes on to 2, and the figure, started anew, to 1."""
        rows = ["set {0} 2", "set {1} 1", "note {1}", "set {0} 1", "set {1} 3", "open x", "note {1}"]
        for upper, lower, texts in (("c", "f", ["x c on", "x f any"]), ("z", "a", ["x a any", "x z on"])):
            head = [f"counter {upper}", f"counter {lower} under {upper}"]
            book = book_of([row.format(upper, lower) for row in rows], head)
            self.check(book, [("x", upper, "on"), ("x", lower, "any")], ["twin"], texts)
            less = [text.replace("any", "on") for text in texts]
            self.check(book, [("x", upper, "on"), ("x", lower, "on")], ["twin"], less)

    def test_three_greatest_leaves(self):
        rows = ["set c 1", "note f", "set c 0", "open x", "set f 5", "open y", "note f"]
        leaves = [ANY, ("y", "f", "any"), ("y", "c", "on")]
        found = widest(book_of(rows, TWO), Leaves(leaves), ["twin"])
        texts = [str(one) for one in found]
        self.assertEqual(texts, sorted(texts))
        self.defined(book_of(rows, TWO), Leaves(leaves), ["twin"])

    def test_a_leave_that_only_starts_a_counter_anew(self):
        rows = ["note c", "note f", "open x", "set c 1", "note f"]
        book = book_of(rows, TWO)
        self.check(book, [ANY, ("x", "f", "on")], ["twin"], ["x f on"])
        rows = ["note c", "note f", "note f", "open x", "set c 1", "note f"]
        self.check(book_of(rows, TWO), [ANY, ("x", "f", "on")], ["twin"], ["x f on"])

    def test_a_set_that_starts_nothing_anew(self):
        """Leaves to set a chapter let it go on, too, and then its figures start anew."""
        rows = ["note c", "skip f 8", "note f", "open x", "set c 1", "note f"]
        self.check(book_of(rows, TWO), [ANY], ["fall"], ["-"])
        self.check(book_of(rows, TWO), [ON], ["fall"], ["-"])
        self.check(book_of(rows, TWO), [ANY], ["twin"], ["x c any"])

    def test_names_and_counters_that_the_book_does_not_have(self):
        book = book_of(["note c", "open x", "note c"])
        others = [("q", "c", "any"), ("x", "q", "on"), ("c", "x", "any")]
        self.check(book, [ANY, *others], ["twin"], ["c x any; q c any; x c on; x q on"])
        self.check(book, [ANY, *others], ["gap"], ["c x any; q c any; x q on"])
        self.check(book, others, ["gap"], ["c x any; q c any; x q on"])
        self.check(book_of(["skip c 1", "note c"]), others, ["gap"], [])

    def test_books_without_open_places(self):
        self.check(book_of(["note c"]), [ANY], FAULTS, ["x c any"])
        self.check(book_of([]), [], FAULTS, ["-"])
        self.check(Book([], [Part("a")]), [ANY], FAULTS, ["x c any"])

    def defined(self, book, leaves, wanted):
        """Check the widest leaves by what they are."""
        within = list(drawn.leaves_within(leaves, book))
        safe = [one for one in within if not set(faults(book, one)) & set(wanted)]
        greatest = [one for one in safe if not any(one <= other and one != other for other in safe)]
        found = [str(one) for one in widest(book, leaves, wanted)]
        self.assertEqual(found, sorted(str(one) for one in greatest), (str(book), str(leaves), wanted))
        return len(found)

    def test_books_by_chance(self):
        dice = random.Random(24)
        seen = []
        for text, book, leaves in drawn.some_books(dice, 120, 2000):
            if len(book.names) * len(book.counters) <= 4:
                wanted = dice.choices(FAULTS, k=dice.choice([0, 1, 1, 2]))
                seen.append(self.defined(book, leaves | Leaves([("q", "c", "on")]), wanted))
        self.assertEqual({one for one in seen if one < 2}, {0, 1})

    def test_books_with_several_greatest_leaves(self):
        dice = random.Random(25)
        seen = {0: 0, 1: 0, 2: 0, 3: 0}
        for step in range(150):
            rows = ["set c {}", "note f", "set c {}", "open x", "set f {}", "open y", "note f", "open x", "note f"]
            rows = [row.format(dice.randint(0, 3)) for row in rows[:dice.randint(7, 9)]]
            leaves = [(name, counter, dice.choice(["on", "any"])) for name, counter in itertools.product("xy", "cf")]
            found = self.defined(book_of(rows, TWO), Leaves(leaves), [dice.choice(["twin", "fall"])])
            seen[min(found, 3)] += 1
        self.assertGreater(seen[2] + seen[3], 5, seen)


class Starts(unittest.TestCase):
    def check(self, rows, leaves, counter, wanted, places, head=TWO):
        book, allowed = book_of(rows, head), Leaves(leaves)
        found = starts(book, allowed, counter, wanted)
        self.assertIs(type(found), tuple)
        self.assertEqual(found, places, rows)
        self.assertTrue(all(type(one) is tuple for one in found))
        self.assertEqual(found, self.defined(book, allowed, counter, wanted))

    def defined(self, book, leaves, counter, wanted):
        """The least sets, by what they are."""
        text = book.parts[-1]
        found = []
        for size in range(3):
            for places in itertools.combinations(range(len(text.rows)), size):
                changed = book
                for at in places[::-1]:
                    changed = changed.having(text.name, at, Set(counter, 0))
                part = any(set(one) < set(places) for one in found)
                if not part and not set(faults(changed, leaves)) & set(wanted):
                    found.append(places)
        return tuple(found)

    def test_no_row_is_needed(self):
        self.check(["note c", "note f", "open x"], [ANY], "f", ["gap"], ((),))
        self.check(["note c", "set c 0", "note c"], [], "c", [], ((),), ONE)
        self.check(["note c", "set c 0", "note c"], [], "c", ["moved", "fall"], ((),), ONE)
        self.check([], [ANY], "c", FAULTS, ((),))

    def test_one_row(self):
        self.check(["note c", "note f", "set c 2", "note f"], [], "f", ["gap"], ((2,), (3,)))
        self.check(["skip c 4", "note c", "open x"], [ANY], "c", ["gap"], ((1,),), ONE)
        self.check(["open x", "note c", "note c"], [ANY], "c", ["gap"], ((1,),), ONE)
        self.check(["open x", "note c", "note c"], [ANY], "c", FAULTS, ((1,),), ONE)

    def test_two_rows(self):
        rows = ["note c", "note f", "set c 2", "note f", "set c 3", "note f"]
        self.check(rows, [], "f", ["gap"], ((2, 4), (2, 5), (3, 4), (3, 5)))
        rows = ["open x", "note f", "set c 5", "open x", "note f"]
        self.check(rows, [("x", "f", "any")], "f", ["moved"], ((1, 4),))
        self.check(rows, [("x", "f", "any")], "f", FAULTS, ((1, 4),))

    def test_more_than_two_rows(self):
        rows = ["note c", "note f", "set c 2", "note f", "set c 3", "note f", "set c 4", "note f"]
        self.check(rows, [], "f", ["gap"], ())

    def test_no_rows_help(self):
        self.check(["note c", "open x", "note c"], [ON], "c", ["gap"], (), ONE)
        self.check(["skip c 1", "note c", "note f"], [], "f", ["gap"], ())
        self.check(["note c", "note f", "open x", "note c"], [ON], "f", ["moved"], ())
        # Not at the end, and not ahead of rows of other parts.
        book = Book.read("counter c\npart a\nskip c 1\nnote c\npart text\nput a")
        self.assertEqual(starts(book, Leaves(), "c", ["gap"]), ())

    def test_rows_that_make_things_worse(self):
        """A set of rows can be enough while a larger one is not."""
        rows = ["skip c 1", "note c", "note c"]
        self.check(rows, [], "c", ["gap"], ((1,),), ONE)
        rows = ["skip c 1", "note c", "skip c 5", "set c 1", "note c"]
        self.check(rows, [], "c", ["gap", "twin"], ((1,),), ONE)

    def test_a_part_that_is_put(self):
        rows = ["put a", "set c 2", "put a", "set c 3", "put a"]
        book = Book.read("\n".join([*TWO, "part a", "note f", "part text", *rows]))
        self.assertEqual(starts(book, Leaves(), "f", ["gap"]), ((1, 3), (1, 4), (2, 3), (2, 4)))
        self.assertEqual(starts(book, Leaves(), "f", ["twin"]), ((),))

    def test_counters_under_it(self):
        rows = ["note c", "note f", "open x", "note f"]
        self.check(rows, [ON], "c", ["moved"], ())
        self.check(["open x", "note f"], [ON], "c", ["moved"], ((1,),))
        self.check(["open x", "note f"], [ON], "f", ["moved"], ())
        self.check(["open x", "note f"], [ON, ("x", "f", "on")], "f", ["gap"], ((1,),))

    def test_books_by_chance(self):
        dice = random.Random(26)
        seen = []
        for text, book, leaves in drawn.some_books(dice, 120, 10 ** 9):
            counter = dice.choice(book.counters)[0]
            wanted = dice.choices(FAULTS, k=dice.choice([1, 1, 2]))
            found = starts(book, leaves, counter, wanted)
            self.assertEqual(found, self.defined(book, leaves, counter, wanted), (text, str(leaves), counter, wanted))
            seen += [len(places) for places in found]
        self.assertEqual(set(seen), {0, 1, 2})


class Invalid(unittest.TestCase):
    def test_any_values_as_faults(self):
        book = book_of(["note c", "open x", "note c"])
        for several in wrong_faults():
            for wanted in several:
                self.assertRaises(InvalidFault, widest, book, Leaves([ANY]), wanted)
                self.assertRaises(InvalidFault, starts, book, Leaves([ANY]), "c", wanted)

    def test_anything_but_a_sequence(self):
        book = book_of(["note c"])
        for value in [*any_values(), *FAULTS]:
            if not isinstance(value, (list, tuple)):
                self.assertRaises(InvalidFault, widest, book, Leaves(), value)
                self.assertRaises(InvalidFault, starts, book, Leaves(), "c", value)

    def test_any_values_as_counters(self):
        book = book_of(["note c", "open x"], TWO)
        for value in [*wrong_names(), "x", "r", "text"]:
            for wanted in ([], ["gap"], ["gaps"], [None], None, "gap"):
                with self.assertRaises(NoName) as caught:
                    starts(book, Leaves(), value, wanted)
                self.assertIs(caught.exception.name, value)

    def test_wrong_faults_come_ahead_of_all_else(self):
        self.assertRaises(InvalidFault, widest, None, None, ["fault"])
        book = book_of(["note c", "set c 0", "note c"])
        self.assertRaises(InvalidFault, widest, book, Leaves(), ["twin", "fault"])
        self.assertRaises(InvalidFault, starts, book, Leaves(), "c", ["twin", "fault"])


class Document(unittest.TestCase):
    def test_examples(self):
        book = Book.read("\n".join(LINES))
        free = Leaves([("x", "c", "on"), ("x", "f", "on")])
        self.assertEqual([str(one) for one in widest(book, free, ["gap"])], ["x f on"])
        self.assertEqual(starts(book, Leaves([("x", "c", "on")]), "f", ["gap"]), ())


class Results(unittest.TestCase):
    def test_parameters_by_name(self):
        book, leaves = book_of(["skip c 1", "note c", "open x"]), Leaves([ON])
        self.assertEqual(widest(wanted=["moved"], leaves=leaves, book=book), (leaves,))
        self.assertEqual(starts(wanted=["gap"], counter="c", leaves=leaves, book=book), ((1,),))

    def test_the_same_call_twice(self):
        book, other = book_of(["note c", "open x", "note c"]), book_of(["note c", "note f", "set c 2", "note f"], TWO)
        leaves, wanted = Leaves([ANY, ("x", "f", "on")]), ["gap", "twin"]
        calls = [lambda: widest(book, leaves, wanted), lambda: widest(other, leaves, []),
                 lambda: widest(book, leaves, ["twin"]), lambda: starts(book, leaves, "c", wanted),
                 lambda: starts(other, Leaves(), "f", wanted), lambda: starts(other, leaves, "c", [])]
        first = [call() for call in calls]
        self.assertEqual([call() for call in calls], first)
        self.assertEqual([call() for call in calls[::-1]], first[::-1])
        self.assertEqual((wanted, str(leaves)), (["gap", "twin"], "x c any; x f on"))

    def test_lists_that_are_changed_later(self):
        wanted = ["twin"]
        found = widest(book_of(["note c", "open x", "note c"]), Leaves([ANY]), wanted)
        wanted.append("gap")
        self.assertEqual([str(one) for one in found], ["x c on"])


if __name__ == "__main__":
    unittest.main()
