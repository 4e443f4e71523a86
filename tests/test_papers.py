"""Points 18 and 19: cases and papers."""

import itertools
import random
import unittest

from partnotes.books import Book, Part
from partnotes.deciding import happens, twins
from partnotes.leaves import Leaves
from partnotes.papers import cases, paper, paper_holds
from partnotes.rows import Note, Open
from tests import drawn
from tests.heads import APART, LINES, ONE, SIDE, THREE, TWO, book_of
from tests.samples import any_values

WORDS = ("still", "on", "at", "both", "new")


def lists(value):
    """A value with lists in place of all tuples."""
    return [lists(one) for one in value] if isinstance(value, tuple) else value


def possible(counters, leaves, name, words):
    """Whether a counter has each of these words, as the document says it."""
    told = {counter: word for (counter, upper), word in zip(counters, words)}
    for counter, upper in counters:
        allowed = {"": ("still",), "on": ("still", "on"), "any": ("still", "on", "at", "both")}
        if told.get(upper) in ("on", "both", "new"):
            if told[counter] != "new":
                return False
        elif told[counter] not in allowed[leaves.word_of(name, counter)]:
            return False
    return True


class Cases(unittest.TestCase):
    def words(self, head, leaves, rows=("open x",)):
        """The words of all cases of a book with the one name x."""
        found = cases(book_of(rows, head), Leaves(leaves))
        self.assertTrue(all(len(case) == 1 and case[0][0] == "x" for case in found))
        return [case[0][1] for case in found]

    def test_one_counter(self):
        self.assertEqual(self.words(ONE, []), [("still",)])
        self.assertEqual(self.words(ONE, [("x", "c", "on")]), [("on",), ("still",)])
        self.assertEqual(self.words(ONE, [("x", "c", "any")]), [("at",), ("both",), ("on",), ("still",)])
        self.assertEqual(self.words(ONE, [("y", "c", "any"), ("x", "f", "any")]), [("still",)])

    def test_a_counter_under_another_one(self):
        self.assertEqual(self.words(TWO, [("x", "c", "on")]), [("on", "new"), ("still", "still")])
        self.assertEqual(self.words(TWO, [("x", "f", "on")]), [("still", "on"), ("still", "still")])
        found = self.words(TWO, [("x", "c", "any"), ("x", "f", "on")])
        self.assertEqual(found, [("at", "on"), ("at", "still"), ("both", "new"), ("on", "new"), ("still", "on"),
                                 ("still", "still")])

    def test_all_cases_of_three_counters_under_one_another(self):
        every = [("x", counter, "any") for counter in "cfr"]
        found = self.words(THREE, every)
        self.assertEqual(len(found), 22)
        rest = [(one, other) for one in ("at", "still") for other in ("at", "both", "on", "still")]
        lower = sorted([*rest, ("both", "new"), ("on", "new")])
        wanted = [("at", *two) for two in lower] + [("both", "new", "new"), ("on", "new", "new")]
        self.assertEqual(found, wanted + [("still", *two) for two in lower])

    def test_cases_are_those_that_the_document_tells(self):
        heads = [ONE, TWO, THREE, APART, SIDE, ["counter c", "counter r", "counter f under c"]]
        dice = random.Random(18)
        for head in heads:
            book = book_of(["open x"], head)
            for step in range(12):
                leaves = drawn.any_leaves(dice, book)
                tried = itertools.product(sorted(WORDS), repeat=len(book.counters))
                wanted = [words for words in tried if possible(book.counters, leaves, "x", words)]
                self.assertEqual(self.words(head, leaves.pairs), wanted, (head, str(leaves)))

    def test_two_names(self):
        book = book_of(["open y", "open x", "open y"], TWO)
        leaves = Leaves([("y", "c", "on"), ("x", "f", "any")])
        wanted = [(("x", ("still", one)), ("y", two)) for one in ("at", "both", "on", "still")
                  for two in (("on", "new"), ("still", "still"))]
        self.assertEqual(cases(book, leaves), tuple(wanted))

    def test_three_counters_and_two_names(self):
        book = book_of(["open x", "open y"], THREE)
        every = Leaves([(name, counter, "any") for name in "xy" for counter in "cfr"])
        found = cases(book, every)
        self.assertEqual(len(found), 22 * 22)
        self.assertEqual(list(found), sorted(set(found)))
        self.assertEqual(len(cases(book_of(["open x", "open y"], APART), every)), 4096)

    def test_no_names_and_no_counters(self):
        self.assertEqual(cases(book_of(["note c"]), Leaves([("x", "c", "any")])), ((),))
        self.assertEqual(cases(Book([], [Part("a")]), Leaves()), ((),))
        self.assertEqual(cases(Book([], [Part("a", [Open("y"), Open("x")])]), Leaves([("x", "c", "on")])),
                         ((("x", ()), ("y", ())),))

    def test_names_that_are_only_in_other_parts(self):
        book = Book.read("counter c\npart a\nopen y\npart text\nopen x\nnote c")
        self.assertEqual(cases(book, Leaves([("y", "c", "any")])), ((("x", ("still",)),),))


class Papers(unittest.TestCase):
    def check(self, book, leaves):
        """Check the told paper, or that there is none; return it."""
        told = paper(book, leaves)
        if happens(book, leaves, "twin"):
            self.assertIsNone(told)
            return None
        self.assertIs(type(told), tuple)
        self.assertIs(paper_holds(book, leaves, told), True)
        notes = [row.counter for row in book.unrolled if row.word == "note"]
        pairs = [(i, j) for j in range(len(notes)) for i in range(j) if notes[i] == notes[j]]
        needed = set(itertools.product(pairs, cases(book, leaves)))
        self.assertEqual({((i, j), case) for i, j, case, place in told}, needed)
        for i, j, case, place in told:
            self.assertIn(place, range(len(book.chain(notes[i]))))
        return told

    def test_one_counter(self):
        still, gone = (("x", ("still",)),), (("x", ("on",)),)
        self.assertEqual(set(self.check(book_of(["note c", "open x", "note c"]), Leaves([("x", "c", "on")]))),
                         {(0, 1, still, 0), (0, 1, gone, 0)})
        self.assertIsNone(self.check(book_of(["note c", "open x", "note c"]), Leaves([("x", "c", "any")])))

    def test_books_without_pairs(self):
        for book in (book_of([]), book_of(["note c", "open x"]), book_of(["note c", "open x", "note f"], TWO),
                     Book([], [Part("a")]), Book([], [Part("a", [Open("x")])])):
            for leaves in (Leaves(), Leaves([("x", "c", "any"), ("x", "f", "any")])):
                self.assertEqual(self.check(book, leaves), ())
                self.assertIs(paper_holds(book, leaves, ()), True)

    def test_books_without_open_places(self):
        book = book_of(["note c", "note c", "note c"])
        self.assertEqual(set(self.check(book, Leaves())), {(0, 1, (), 0), (0, 2, (), 0), (1, 2, (), 0)})
        self.assertIsNone(self.check(book_of(["note c", "set c 0", "note c"]), Leaves()))

    def test_the_place_where_the_numbers_differ(self):
        book = book_of(["note c", "note f", "note c", "note f", "open x"], TWO)
        told = self.check(book, Leaves())
        self.assertIn((1, 3, (("x", ("still", "still")),), 0), told)
        # Both figures print 1, so only the chapters part them.
        entries = [(i, j, case, 1) if (i, j) == (1, 3) else (i, j, case, place) for i, j, case, place in told]
        self.assertIs(paper_holds(book, Leaves(), tuple(entries)), False)
        self.assertIs(paper_holds(book, Leaves(), (*told, *entries)), False)

    def test_an_entry_that_is_true_only_by_a_divisor(self):
        rows = ["open x", "open x", "note c", "set c {}", "note c"]
        leaves = Leaves([("x", "c", "on")])
        self.assertIsNotNone(self.check(book_of([row.format(5) for row in rows]), leaves))
        self.assertIsNone(self.check(book_of([row.format(4) for row in rows]), leaves))

    def test_books_by_chance(self):
        dice = random.Random(19)
        many = 0
        for text, book, leaves in drawn.some_books(dice, 150, 10 ** 9):
            many += bool(self.check(book, leaves))
        self.assertGreater(many, 40)

    def test_true_entries_are_those_that_no_filling_refutes(self):
        """Each entry alone, beside a right paper, for fillings that come in the case of the entry."""
        dice = random.Random(20)
        seen = {True: 0, False: 0}
        for text, book, leaves in drawn.some_books(dice, 60, 300):
            told = self.check(book, leaves)
            notes = [row.counter for row in book.unrolled if row.word == "note"]
            if told:
                for i, j, case, place in told[:20]:
                    for other in range(len(book.chain(notes[i]))):
                        holds = paper_holds(book, leaves, (*told, (i, j, case, other)))
                        seen[holds] += 1
                        self.assertTrue(not holds or not self.refuted(book, leaves, i, j, case, other))
        self.assertGreater(min(seen.values()), 10)

    def refuted(self, book, leaves, i, j, case, place):
        """Whether a short filling in a case lets two notes have the same number at a place."""
        for filling in drawn.fillings(book, leaves):
            if self.case_of(book, filling) == case:
                notes = drawn.shown(book, filling)[0]
                if notes[i][1][place] == notes[j][1][place]:
                    return True
        return False

    def case_of(self, book, filling):
        """The case of a filling."""
        told = []
        for name in book.names:
            rows = [(row.word, row.counter) for row in filling.rows_for(name)]
            words = {}
            for counter, upper in book.counters:
                deeds = tuple(word for word, one in rows if one == counter)
                words[counter] = {(): "still", ("skip",): "on", ("set",): "at", ("skip", "set"): "both"}[deeds]
                if words.get(upper) in ("on", "both", "new"):
                    words[counter] = "new"
            told.append((name, tuple(words.values())))
        return tuple(told)


class Holding(unittest.TestCase):
    """What is a paper, and what is none."""

    def setUp(self):
        self.book = Book.read("\n".join(LINES))
        self.leaves = Leaves([("x", "f", "on")])
        self.told = paper(self.book, self.leaves)

    def holds(self, value):
        found = paper_holds(self.book, self.leaves, value)
        self.assertIsInstance(found, bool)
        return found

    def test_an_entry_is_left_out(self):
        self.assertTrue(self.holds(self.told))
        self.assertEqual(len(self.told), 12)
        for at in range(len(self.told)):
            self.assertFalse(self.holds(self.told[:at] + self.told[at + 1:]))
            self.assertFalse(self.holds((self.told[at],)))
        self.assertFalse(self.holds(()))

    def test_other_orders_and_entries_that_occur_twice(self):
        self.assertTrue(self.holds(self.told[::-1]))
        self.assertTrue(self.holds(self.told + self.told))
        self.assertTrue(self.holds((*self.told[5:], *self.told[:7], self.told[3])))
        shuffled = list(self.told)
        random.Random(4).shuffle(shuffled)
        self.assertTrue(self.holds(tuple(shuffled)))

    def test_an_entry_that_is_left_out_while_another_one_occurs_twice(self):
        for at in range(1, len(self.told)):
            self.assertFalse(self.holds((*self.told[:at], self.told[0], *self.told[at + 1:])))

    def test_lists(self):
        self.assertFalse(self.holds(list(self.told)))
        self.assertFalse(self.holds(lists(self.told)))
        i, j, case, place = self.told[0]
        (name, words), = case
        for entry in ([i, j, case, place], (i, j, list(case), place), (i, j, ([name, words],), place),
                      (i, j, ((name, list(words)),), place), [self.told[0]], (self.told[0],)):
            self.assertFalse(self.holds((entry, *self.told)))
            self.assertFalse(self.holds((*self.told, entry)))

    def test_bools(self):
        for i, j, case, place in self.told:
            entries = [(bool(i), j, case, place)] * (i < 2) + [(i, bool(j), case, place)] * (j < 2)
            for entry in [*entries, (i, j, case, bool(place))]:
                self.assertFalse(self.holds((*self.told, entry)), entry)
        rest = book_of(["note c", "note c"])
        self.assertTrue(paper_holds(rest, Leaves(), ((0, 1, (), 0),)))
        for entry in ((False, 1, (), 0), (0, True, (), 0), (0, 1, (), False), (False, True, (), False)):
            self.assertFalse(paper_holds(rest, Leaves(), (entry,)))
            self.assertFalse(paper_holds(rest, Leaves(), ((0, 1, (), 0), entry)))

    def test_other_sizes(self):
        i, j, case, place = self.told[0]
        for entry in ((), (i,), (i, j), (i, j, case), (i, j, case, place, place), (i, j, (), place),
                      (i, j, case + case, place), (i, j, case[0], place), (i, j, ((case[0][0],),), place),
                      (i, j, ((*case[0], 0),), place), (i, j, (("x", ("still",)),), place),
                      (i, j, (("x", ("still", "still", "still")),), place)):
            self.assertFalse(self.holds((*self.told, entry)), entry)
            self.assertFalse(self.holds((entry, *self.told)), entry)

    def test_pairs_that_are_no_notes_of_one_counter(self):
        case, place = self.told[0][2:]
        for i, j in ((0, 1), (0, 4), (1, 5), (4, 5), (5, 6), (1, 10 ** 9), (-1, 1), (-4, -3), (-2, 4), (1, -1)):
            self.assertFalse(self.holds((*self.told, (i, j, case, place))), (i, j))

    def test_notes_of_two_counters_that_never_print_the_same(self):
        book = book_of(["note c", "note f", "note c", "note f"], TWO)
        told = paper(book, Leaves())
        self.assertEqual(set(told), {(0, 2, (), 0), (1, 3, (), 0)})
        for i, j in ((1, 2), (0, 3)):
            for place in (0, 1):
                self.assertIs(paper_holds(book, Leaves(), (*told, (i, j, (), place))), False)

    def test_notes_that_do_not_stand_in_order(self):
        for i, j, case, place in self.told:
            for entry in ((j, i, case, place), (i, i, case, place), (j, j, case, place)):
                self.assertFalse(self.holds((*self.told, entry)))

    def test_cases_that_are_not_possible(self):
        i, j, case, place = self.told[0]
        for words in (("on", "new"), ("at", "still"), ("still", "at"), ("still", "both"), ("still", "new"),
                      ("new", "new"), ("still", "nil"), ("still", ""), ("", ""), ("on", "still"), ("Still", "still")):
            self.assertFalse(self.holds((*self.told, (i, j, (("x", words),), place))), words)
        for name in ("y", "", "X", "xx", "c"):
            self.assertFalse(self.holds((*self.told, (i, j, ((name, case[0][1]),), place))), name)

    def test_places_that_are_none(self):
        for i, j, case, place in self.told:
            for other in (-1, -2, 2, 3, 10 ** 30, "1", None, (1,), 1 == 1):
                self.assertFalse(self.holds((*self.told, (i, j, case, other))), other)

    def test_entries_that_are_not_true(self):
        for i, j, case, place in self.told:
            self.assertFalse(self.holds((*self.told, (i, j, case, 1 - place))))
            self.assertFalse(self.holds(((i, j, case, 1 - place), *self.told)))

    def test_a_paper_for_other_books_and_leaves(self):
        self.assertFalse(paper_holds(self.book, Leaves(), self.told))
        self.assertFalse(paper_holds(self.book, Leaves([("x", "c", "on")]), self.told))
        self.assertFalse(paper_holds(book_of(["note c", "open x"], TWO), self.leaves, self.told))
        self.assertTrue(paper_holds(self.book, self.leaves | Leaves([("y", "c", "any"), ("x", "q", "on")]), self.told))

    def test_there_is_no_paper_if_a_twin_happens(self):
        book, leaves = book_of(["note c", "open x", "note c"]), Leaves([("x", "c", "any")])
        self.assertIsNone(paper(book, leaves))
        every = [(0, 1, case, 0) for case in cases(book, leaves)]
        self.assertFalse(paper_holds(book, leaves, tuple(every)))
        self.assertTrue(paper_holds(book, Leaves([("x", "c", "on")]), tuple(every[2:])))
        self.assertFalse(paper_holds(book, leaves, tuple(every[2:])))

    def test_any_values(self):
        i, j, case, place = self.told[0]
        rest = book_of(["open x"])
        for value in any_values():
            self.assertFalse(self.holds(value))
            self.assertFalse(self.holds((value,)))
            self.assertFalse(self.holds((*self.told, value)))
            for entry in ((value, j, case, place), (i, value, case, place), (i, j, value, place),
                          (i, j, (value,), place), (i, j, ((value, case[0][1]),), place),
                          (i, j, (("x", value),), place), (i, j, (("x", ("still", value)),), place),
                          (i, j, case, value)):
                if entry not in self.told or isinstance(value, bool):
                    self.assertFalse(self.holds((*self.told, entry)), entry)
                    self.assertFalse(self.holds((entry, *self.told)), entry)
            self.assertIs(paper_holds(rest, self.leaves, value), value == ())


class Document(unittest.TestCase):
    def test_examples(self):
        book = Book.read("\n".join(LINES))
        self.assertEqual(cases(book, Leaves([("x", "c", "on")])),
                         ((("x", ("on", "new")),), (("x", ("still", "still")),)))
        told = paper(book, Leaves([("x", "f", "on")]))
        found = [paper_holds(book, Leaves([("x", "f", "on")]), told), paper_holds(book, Leaves(), told)]
        self.assertEqual([*found, paper_holds(book, Leaves(), ())], [True, False, False])


class Results(unittest.TestCase):
    def test_parameters_by_name(self):
        book, leaves = book_of(["note c", "open x", "note c"]), Leaves([("x", "c", "on")])
        told = paper(leaves=leaves, book=book)
        self.assertEqual(told, paper(book, leaves))
        self.assertEqual(cases(leaves=leaves, book=book), cases(book, leaves))
        self.assertIs(paper_holds(value=told, leaves=leaves, book=book), True)

    def test_the_same_call_twice(self):
        book, other = book_of(["note c", "open x", "note c"]), book_of(["note c", "note c", "open y"])
        leaves, more = Leaves([("x", "c", "on")]), Leaves([("y", "c", "any")])
        calls = [lambda: cases(book, leaves), lambda: cases(other, more), lambda: paper(book, leaves),
                 lambda: paper(other, more), lambda: paper_holds(book, leaves, paper(book, leaves)),
                 lambda: paper_holds(other, more, paper(book, leaves)), lambda: twins(book, leaves)]
        first = [call() for call in calls]
        self.assertEqual([call() for call in calls[::-1]], first[::-1])
        self.assertEqual([call() for call in calls], first)

    def test_sequences_are_tuples(self):
        book = Book([("c", "")], [Part("a", [Note("c"), Open("x"), Note("c")])])
        leaves = Leaves([("x", "c", "on")])
        for value in (cases(book, leaves), paper(book, leaves)):
            self.assertEqual(lists(value), lists(tuple(value)))
            self.assertIs(type(value), tuple)
            self.assertTrue(all(type(one) is tuple for one in value))


if __name__ == "__main__":
    unittest.main()
