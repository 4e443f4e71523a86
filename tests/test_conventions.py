"""Point 2: conventions, for all that is built."""

import itertools
import unittest

from partnotes.books import Book, Part
from partnotes.errors import (
    InvalidBook, InvalidFilling, InvalidLeaves, InvalidMap, InvalidPart, InvalidRow, InvalidText, NoName, NoPlace,
    Refused,
)
from partnotes.leaves import Leaves
from partnotes.maps import Map, map_of
from partnotes.numbers import Filling, Played, faults_at, play
from partnotes.rows import Back, Keep, Note, Open, Put, Ref, Row, Set, Skip, read_row
from tests.samples import any_values, every_object

TEXT = "counter c\ncounter f under c\npart a\nnote f cat\npart b\nput a\nopen x\nref cat"


def state(book):
    """All that a book tells."""
    return (str(book), book.counters, book.parts, book.names, book.tops, book.unrolled, len(book))


def shown(value):
    """All that makes an object equal to others of its class."""
    return str(vars(value)) if isinstance(value, Played) else str(value)


class Names(unittest.TestCase):
    """Arguments may be passed by their names, in any order."""

    def test_errors(self):
        for error in (InvalidRow, InvalidPart, InvalidBook, InvalidFilling, InvalidMap):
            self.assertEqual(error(word="f").word, "f")
        for error in (InvalidText, InvalidLeaves, Refused, NoPlace):
            self.assertEqual(error(at=3).at, 3)
        self.assertEqual(NoName(name="f").name, "f")

    def test_rows(self):
        self.assertEqual(str(Note(label="cat", counter="f")), "note f cat")
        self.assertEqual(str(Note(counter="f")), "note f")
        self.assertEqual(str(Skip(by=2, counter="f")), "skip f 2")
        self.assertEqual(str(Set(to=0, counter="f")), "set f 0")
        self.assertEqual(str(Keep(counter="f")), "keep f")
        self.assertEqual(str(Back(counter="f")), "back f")
        self.assertEqual(str(Ref(label="cat")), "ref cat")
        self.assertEqual(str(Put(part="pic")), "put pic")
        self.assertEqual(str(Open(name="x")), "open x")
        self.assertEqual(read_row(text="note f cat"), Note("f", "cat"))

    def test_parts_and_books(self):
        part = Part(rows=[Note("f")], name="a")
        self.assertEqual(part, Part("a", [Note("f")]))
        self.assertEqual(Part(name="a"), Part("a"))
        book = Book(parts=[part], counters=[("f", "")])
        self.assertEqual(book, Book([("f", "")], [part]))
        self.assertEqual(Book.read(text=TEXT), Book.read(TEXT))

    def test_methods_of_books(self):
        book = Book.read(TEXT)
        self.assertEqual(book.part_of(name="a"), book.part_of("a"))
        self.assertEqual(book.chain(name="f"), ("c", "f"))
        self.assertEqual(book.without(at=1, name="b"), book.without("b", 1))
        self.assertEqual(book.having(row=Note("c"), at=2, name="b"), book.having("b", 2, Note("c")))
        self.assertEqual(book.having(at=0, name="a", row=Open("y")), book.having("a", 0, Open("y")))

    def test_numbers(self):
        book, rows = Book.read(TEXT), [Skip("f", 2)]
        filling = Filling(parts=[("x", rows)])
        self.assertEqual(filling, Filling([("x", rows)]))
        self.assertEqual(filling.rows_for(name="x"), tuple(rows))
        self.assertEqual(play(filling=filling, book=book), play(book, filling))
        self.assertEqual(faults_at(filling=filling, book=book), faults_at(book, filling))

    def test_maps(self):
        one = Map(box=("now", 2), now=("at", 5))
        self.assertEqual(one, Map(("at", 5), ("now", 2)))
        self.assertEqual(Map(box=("at", 1))(kept=9, number=4), (4, 1))
        self.assertEqual(one(kept=9, number=4), (5, 6))
        self.assertEqual(one.times(n=3), one.times(3))
        self.assertEqual(map_of(counter="f", name="a", book=Book.read(TEXT)), Map(("now", 1)))

    def test_leaves(self):
        leaves = Leaves(items=[("x", "f", "on")])
        self.assertEqual(leaves, Leaves([("x", "f", "on")]))
        self.assertEqual(leaves.word_of(counter="f", name="x"), "on")
        book, filling = Book.read(TEXT), Filling([("x", [Skip("f", 2)])])
        self.assertIs(leaves.allow(filling=filling, book=book), True)


class Changes(unittest.TestCase):
    def test_rows_of_a_part_that_are_changed_later(self):
        rows = [Note("f"), Open("x")]
        part = Part("a", rows)
        rows.append(Note("c"))
        rows[0] = Note("c")
        self.assertEqual(part.rows, (Note("f"), Open("x")))
        self.assertEqual(str(part), "part a\nnote f\nopen x")

    def test_arguments_of_a_book_that_are_changed_later(self):
        counters = [("c", ""), ("f", "c")]
        parts = [Part("a", [Note("f")]), Part("b", [Put("a"), Open("x")])]
        book = Book(counters, parts)
        before = state(book)
        counters.pop()
        counters[0] = ("z", "")
        parts.append(Part("d", [Open("y")]))
        parts[0] = Part("z")
        self.assertEqual(state(book), before)
        self.assertEqual(book.chain("f"), ("c", "f"))
        self.assertEqual(book.part_of("a"), Part("a", [Note("f")]))
        self.assertRaises(NoName, book.part_of, "d")

    def test_functions_do_not_change_their_arguments(self):
        rows, counters = [Note("f"), Open("x")], [("c", ""), ("f", "c")]
        parts = [Part("a", rows), Part("b", [Put("a")])]
        Book(counters, parts).having("b", 0, Note("c")).without("a", 0)
        self.assertEqual(rows, [Note("f"), Open("x")])
        self.assertEqual(counters, [("c", ""), ("f", "c")])
        self.assertEqual(parts, [Part("a", rows), Part("b", [Put("a")])])
        self.assertRaises(InvalidBook, Book, counters, [*parts, Part("d", [Note("g")])])
        self.assertEqual(parts, [Part("a", rows), Part("b", [Put("a")])])

    def test_arguments_of_fillings_and_leaves_that_are_changed_later(self):
        rows, triples = [Skip("f", 2), Set("c", 1)], [("x", "f", "on"), ("y", "c", "any")]
        parts = [("x", rows), ("y", [Skip("c", 1)])]
        filling, leaves = Filling(parts), Leaves(triples)
        before = str(filling), str(leaves)
        rows.append(Skip("f", 1))
        rows[0] = Skip("f", 9)
        parts[1][1].clear()
        parts.append(("z", rows))
        triples.pop()
        triples[0] = ("z", "z", "any")
        self.assertEqual((str(filling), str(leaves)), before)
        self.assertEqual(before, ("x: skip f 2, set c 1; y: skip c 1", "x f on; y c any"))
        self.assertEqual((filling.names, filling.rows_for("x")), (("x", "y"), (Skip("f", 2), Set("c", 1))))
        self.assertEqual((leaves.pairs, len(leaves)), ((("x", "f", "on"), ("y", "c", "any")), 2))
        self.assertEqual((leaves.word_of("y", "c"), leaves.word_of("z", "z")), ("any", ""))

    def test_fillings_and_leaves_do_not_change_their_arguments(self):
        rows, triples = [Skip("f", 2), Set("c", 1)], [("x", "f", "on"), ("x", "f", "any"), ("a", "c", "any")]
        parts = [("y", rows), ("x", ())]
        Filling(parts)
        Leaves(triples)
        self.assertEqual((parts, rows), ([("y", rows), ("x", ())], [Skip("f", 2), Set("c", 1)]))
        self.assertEqual(triples, [("x", "f", "on"), ("x", "f", "any"), ("a", "c", "any")])
        self.assertRaises(InvalidFilling, Filling, [*parts, ("y", rows)])
        self.assertRaises(InvalidLeaves, Leaves, [*triples, "x"])
        self.assertEqual((len(parts), len(rows), len(triples)), (2, 2, 3))

    def test_playing_changes_nothing(self):
        book, filling = Book.read(TEXT), Filling([("x", [Skip("f", 2)])])
        leaves, step = Leaves([("x", "f", "any")]), Map(("box", 1), ("now", 2))
        before = state(book), str(filling), str(leaves), str(step)
        play(book, filling)
        faults_at(book, filling)
        leaves.allow(book, filling)
        map_of(book, "a", "f").times(5)
        step(3, 4)
        self.assertRaises(InvalidFilling, play, book, Filling([("x", [Skip("q", 2)])]))
        self.assertEqual((state(book), str(filling), str(leaves), str(step)), before)

    def test_in_place_operators_return_new_objects(self):
        one = elder = Map(("now", 3))
        one >>= Map(("at", 5), ("now", 0))
        self.assertEqual((str(elder), str(one)), ("now+3 box+0", "at 5 now+3"))
        p = first = Leaves([("x", "f", "on")])
        p |= Leaves([("y", "c", "any")])
        self.assertEqual((str(first), str(p)), ("x f on", "x f on; y c any"))
        second = p
        p &= Leaves([("y", "c", "on")])
        self.assertEqual((str(first), str(second), str(p)), ("x f on", "x f on; y c any", "y c on"))

    def test_errors_keep_the_arguments_themselves(self):
        book, name = Book.read(TEXT), ["a"]
        for call in (
            book.part_of, book.chain, lambda value: book.without(value, 0), lambda value: map_of(book, value, "f"),
            lambda value: map_of(book, "a", value),
        ):
            with self.assertRaises(NoName) as caught:
                call(name)
            self.assertIs(caught.exception.name, name)

    def test_books_do_not_change(self):
        book = Book.read(TEXT)
        before = state(book)
        book.having("b", 1, Open("y"))
        book.without("b", 1)
        for call in (
            lambda: book.having("b", 0, Note("g")), lambda: book.without("a", 0), lambda: book.without("b", -1),
            lambda: book.chain("x"), lambda: book.part_of(None), lambda: Book.read(TEXT + "\n"),
        ):
            self.assertRaises((InvalidBook, InvalidText, NoName, NoPlace), call)
        self.assertEqual(state(book), before)


class Sequences(unittest.TestCase):
    def test_lists_and_tuples_may_be_passed_and_tuples_are_returned(self):
        for kind, other in itertools.product((list, tuple), (list, tuple)):
            part = Part("a", kind([Note("f")]))
            book = Book(other([("f", "")]), kind([part]))
            self.assertEqual(str(book), "counter f\npart a\nnote f")
            for value in (part.rows, book.counters, book.parts, book.names, book.tops, book.unrolled, book.chain("f")):
                self.assertIs(type(value), tuple)

    def test_fillings_and_leaves(self):
        book = Book.read(TEXT)
        for kind, other in itertools.product((list, tuple), (list, tuple)):
            filling = Filling(kind([("x", other([Skip("f", 2)]))]))
            leaves = Leaves(kind([("x", "f", "on")]))
            self.assertEqual((str(filling), str(leaves)), ("x: skip f 2", "x f on"))
            played = play(book, filling)
            for value in (
                filling.names, filling.rows_for("x"), filling.rows_for("y"), leaves.pairs, Map()(1, 2), played.notes,
                played.refs, played.ends, faults_at(book, filling), Map().now, Map().box,
            ):
                self.assertIs(type(value), tuple)

    def test_a_pair_is_no_list(self):
        self.assertRaises(InvalidBook, Book, [["f", ""]], [Part("a")])


class Repeated(unittest.TestCase):
    def test_the_same_call_twice(self):
        book = Book.read(TEXT)
        calls = [
            lambda: str(book), lambda: book.names, lambda: book.tops, lambda: book.unrolled, lambda: len(book),
            lambda: book.chain("f"), lambda: book.part_of("b"), lambda: book.without("b", 1),
            lambda: book.having("b", 1, Open("y")), lambda: Book.read(TEXT), lambda: read_row("note f cat"),
            lambda: Part("a", [Note("f")]), lambda: Skip("f", 2), lambda: Filling([("x", [Skip("f", 2)])]),
            lambda: play(book, Filling()), lambda: play(book, Filling([("x", [Skip("f", 2)])])),
            lambda: faults_at(book, Filling()), lambda: faults_at(book, Filling([("x", [Skip("c", 2)])])),
            lambda: Map(("at", 1)), lambda: Map(("now", 1)).times(7), lambda: map_of(book, "a", "c"),
            lambda: Leaves([("x", "f", "on")]), lambda: Leaves([("x", "f", "on")]) | Leaves([("y", "f", "on")]),
            lambda: Leaves([("x", "f", "on")]).allow(book, Filling()),
        ]
        first = [call() for call in calls]
        self.assertEqual([call() for call in calls], first)
        self.assertEqual([call() for call in calls[::-1]], first[::-1])


class Equality(unittest.TestCase):
    def test_objects_of_other_classes(self):
        objects = [value for value in every_object() if not isinstance(value, Exception)]
        for one, other in itertools.product(objects, any_values()):
            rows = isinstance(one, Row) and isinstance(other, Row)
            same = (rows or type(one) is type(other)) and shown(one) == shown(other)
            self.assertIs(one == other, same)
            self.assertIs(other == one, same)
            self.assertIs(one != other, not same)

    def test_a_part_and_a_book_with_one_text(self):
        part, book = Part("a"), Book([], [Part("a")])
        self.assertEqual(str(part), str(book))
        self.assertIs(part == book, False)
        self.assertIs(book == part, False)
        self.assertIs(book == "part a", False)


class Iteration(unittest.TestCase):
    def test_objects_are_not_iterable(self):
        for value in every_object():
            for use in (iter, list, tuple, sorted, lambda one: [*one], lambda one: "f" in one):
                self.assertRaises(TypeError, use, value)

    def test_they_have_no_items(self):
        for value in every_object():
            with self.assertRaises(TypeError):
                value[0]


if __name__ == "__main__":
    unittest.main()
