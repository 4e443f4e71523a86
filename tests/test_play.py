"""Point 10: the numbers of the notes."""

import random
import time
import unittest

from partnotes.books import Book, Part
from partnotes.errors import InvalidFilling
from partnotes.numbers import Filling, Played, play
from partnotes.rows import Note, Open, Put, Ref, Set, Skip
from tests import numbering, texts

THREE = ["counter c", "counter f under c", "counter r under f"]
FREE = ["counter c", "counter f under c", "counter r"]
LINES = [
    "counter c", "counter f under c", "part pic", "note f", "note f", "part book", "note c", "put pic", "keep f",
    "open x", "back f", "put pic",
]


def read(head, rows):
    """The book with these counters and a text of these rows."""
    return Book.read("\n".join([*head, "part text", *rows]))


def filling(**rows):
    """The filling with rows of these texts, separated by commas."""
    return texts.filling_of({name: [row.split() for row in told.split(",")] for name, told in rows.items()})


class Counting(unittest.TestCase):
    def check(self, head, rows, notes, ends, filled=Filling()):
        """Check the prints of the notes and the ends."""
        played = play(read(head, rows), filled)
        self.assertEqual([prints for counter, prints in played.notes], notes, rows)
        self.assertEqual(played.ends, ends, rows)

    def test_the_example(self):
        played = play(Book.read("\n".join(LINES)), filling(x="skip f 7"))
        self.assertIsInstance(played, Played)
        notes = (("c", (1,)), ("f", (1, 1)), ("f", (1, 2)), ("f", (1, 3)), ("f", (1, 4)))
        self.assertEqual(played.notes, notes)
        self.assertEqual(played.ends, ((1, 0), (4, 2)))
        self.assertEqual(played.refs, ())

    def test_nothing(self):
        played = play(Book([], [Part("a")]), Filling())
        self.assertEqual((played.notes, played.refs, played.ends), ((), (), ()))
        self.check(THREE, [], [], ((0, 0), (0, 0), (0, 0)))

    def test_tuples_are_returned(self):
        played = play(read(THREE, ["note c a", "ref a", "open x"]), filling(x="set c 3"))
        for value in (played.notes, played.refs, played.ends):
            self.assertIs(type(value), tuple)
        for value in (played.notes[0], played.notes[0][1], played.refs[0], played.refs[0][2], *played.ends):
            self.assertIs(type(value), tuple)

    def test_a_counter_goes_on(self):
        self.check(["counter c"], ["note c", "note c", "skip c 3", "note c"], [(1,), (2,), (6,)], ((6, 0),))
        self.check(["counter c"], ["skip c 1000", "skip c 2"], [], ((1002, 0),))

    def test_counters_under_it_start_anew(self):
        rows = ["note c", "note f", "note r", "note r", "note f", "note r", "note c", "note r", "note f", "note r"]
        prints = [(1,), (1, 1), (1, 1, 1), (1, 1, 2), (1, 2), (1, 2, 1), (2,), (2, 0, 1), (2, 1), (2, 1, 1)]
        self.check(THREE, rows, prints, ((2, 0), (1, 0), (1, 0)))

    def test_they_start_anew_by_skip_too(self):
        rows = ["set f 4", "set r 5", "skip c 2", "note r"]
        self.check(THREE, rows, [(2, 0, 1)], ((2, 0), (0, 0), (1, 0)))
        self.check(THREE, ["set c 3", "set r 5", "skip f 2", "note r"], [(3, 2, 1)], ((3, 0), (2, 0), (1, 0)))

    def test_counters_under_none_of_them_go_on(self):
        rows = ["note r", "note c", "note r", "note f", "note r", "skip c 1", "note r"]
        self.check(FREE, rows, [(1,), (1,), (2,), (1, 1), (3,), (4,)], ((2, 0), (0, 0), (4, 0)))
        head = ["counter c", "counter f under c", "counter r under c"]
        self.check(head, ["note f", "note r", "note r", "note f"], [(0, 1), (0, 1), (0, 2), (0, 2)],
                   ((0, 0), (2, 0), (2, 0)))

    def test_set_and_back_let_no_other_counter_start_anew(self):
        rows = ["note c", "note f", "keep c", "set c 7", "note f", "back c", "note f"]
        self.check(THREE, rows, [(1,), (1, 1), (7, 2), (1, 3)], ((1, 1), (3, 0), (0, 0)))

    def test_the_counter_above_stays(self):
        self.check(THREE, ["note r", "note f", "skip r 4"], [(0, 0, 1), (0, 1)], ((0, 0), (1, 0), (4, 0)))

    def test_set(self):
        self.check(["counter c"], ["note c", "set c 9", "note c", "set c 0", "note c"], [(1,), (10,), (1,)], ((1, 0),))

    def test_a_box_that_was_never_filled(self):
        self.check(THREE, ["note f", "back f", "note f"], [(0, 1), (0, 1)], ((0, 0), (1, 0), (0, 0)))
        self.check(["counter c"], ["set c 5", "back c"], [], ((0, 0),))

    def test_keep_and_back(self):
        rows = ["note c", "keep c", "note c", "note c", "back c", "note c", "back c"]
        self.check(["counter c"], rows, [(1,), (2,), (3,), (2,)], ((1, 1),))
        self.check(["counter c"], ["skip c 4", "keep c"], [], ((4, 4),))
        self.check(["counter c"], ["keep c", "note c", "keep c", "back c"], [(1,)], ((1, 1),))

    def test_a_box_stays_while_a_counter_above_goes_on(self):
        rows = ["note c", "skip f 3", "keep f", "note c", "note f", "back f", "note f"]
        self.check(THREE, rows, [(1,), (2,), (2, 1), (2, 4)], ((2, 0), (4, 3), (0, 0)))
        rows = ["skip r 2", "keep r", "note c", "note f", "note r", "back r", "note r"]
        self.check(THREE, rows, [(1,), (1, 1), (1, 1, 1), (1, 1, 3)], ((1, 0), (1, 0), (3, 2)))

    def test_each_counter_has_its_own_box(self):
        rows = ["skip c 1", "skip f 2", "skip r 3", "keep f", "skip f 1", "back c", "back r", "back f"]
        self.check(FREE, rows, [], ((0, 0), (2, 2), (0, 0)))

    def test_counters_in_another_order_than_their_chain(self):
        head = ["counter r", "counter c", "counter f under c", "counter a under f"][:3]
        self.check(head, ["note f", "note c", "note r", "note f"], [(0, 1), (1,), (1,), (1, 1)],
                   ((1, 0), (1, 0), (1, 0)))


class Parts(unittest.TestCase):
    def test_parts_that_are_put_in_twice(self):
        book = Book.read("\n".join(LINES))
        notes = (("c", (1,)), ("f", (1, 1)), ("f", (1, 2)), ("f", (1, 3)), ("f", (1, 4)))
        self.assertEqual(play(book, Filling()).notes, notes)
        self.assertEqual(play(book, Filling()).ends, ((1, 0), (4, 2)))

    def test_the_text_is_the_last_part(self):
        book = Book([("c", "")], [Part("a", [Note("c"), Open("x")]), Part("b", [Skip("c", 5), Note("c")])])
        played = play(book, filling(x="skip c 1"))
        self.assertEqual((played.notes, played.ends), ((("c", (6,)),), ((6, 0),)))


class Fillings(unittest.TestCase):
    def test_rows_stand_at_the_open_places(self):
        book = read(["counter c"], ["note c", "open x", "note c"])
        for told, prints, end in (
            ("skip c 5", (7,), 7), ("set c 5", (6,), 6), ("skip c 5,set c 2", (3,), 3), ("set c 2,skip c 5", (8,), 8),
            ("skip c 1,skip c 1", (4,), 4), ("set c 0", (1,), 1),
            ("set c 1000000000,skip c 1", (1000000002,), 1000000002),
        ):
            played = play(book, filling(x=told))
            self.assertEqual(played.notes, (("c", (1,)), ("c", prints)), told)
            self.assertEqual(played.ends, ((end, 0),))

    def test_an_open_place_that_is_passed_twice(self):
        book = read(["counter c"], ["open x", "note c", "open x", "note c", "open y", "note c"])
        told = play(book, filling(x="skip c 2", y="set c 1")).notes
        self.assertEqual(told, (("c", (3,)), ("c", (6,)), ("c", (2,))))
        parts = [Part("a", [Open("x"), Note("c")]), Part("b", [Put("a"), Put("a")])]
        told = play(Book([("c", "")], parts), filling(x="skip c 4")).notes
        self.assertEqual(told, (("c", (5,)), ("c", (10,))))

    def test_rows_let_counters_start_anew(self):
        book = read(THREE, ["note c", "note f", "note r", "open x", "note r", "note f"])
        told = [prints for counter, prints in play(book, filling(x="skip c 1")).notes]
        self.assertEqual(told, [(1,), (1, 1), (1, 1, 1), (2, 0, 1), (2, 1)])
        told = [prints for counter, prints in play(book, filling(x="set c 4")).notes]
        self.assertEqual(told, [(1,), (1, 1), (1, 1, 1), (4, 1, 2), (4, 2)])
        told = [prints for counter, prints in play(book, filling(x="skip f 1,skip r 7")).notes]
        self.assertEqual(told, [(1,), (1, 1), (1, 1, 1), (1, 2, 8), (1, 3)])

    def test_names_that_the_book_does_not_have(self):
        book = read(["counter c"], ["note c", "open x", "note c"])
        unused = Book([("c", "")], [Part("a", [Open("y")]), Part("b", [Note("c"), Open("x"), Note("c")])])
        for one in (book, unused):
            plain = play(one, filling(x="skip c 1"))
            for more in ("skip c 7", "skip q 7", "set f 0,skip c 1", "set q 0"):
                self.assertEqual(play(one, filling(x="skip c 1", y=more)), plain)
                self.assertEqual(play(one, filling(y=more)), play(one, Filling()))

    def test_counters_that_the_book_does_not_have(self):
        book = read(["counter c"], ["open y", "note c a", "open x", "ref a"])
        for told in (
            {"x": "skip f 1"}, {"x": "set f 1"}, {"y": "skip c 1,skip x 1"}, {"x": "skip c 1", "y": "set a 0"},
            {"x": "skip f 1", "y": "skip c 1"}, {"z": "skip q 1", "x": "set q 0"}, {"x": "skip c 1,set c 1,set ca 1"},
        ):
            with self.assertRaises(InvalidFilling) as caught:
                play(book, filling(**told))
            self.assertEqual(caught.exception.word, "counter")
        none = Book([], [Part("a", [Open("x")])])
        self.assertRaises(InvalidFilling, play, none, filling(x="skip c 1"))
        self.assertEqual(play(none, filling(y="skip c 1")).ends, ())

    def test_names_without_rows(self):
        book = read(["counter c"], ["open x", "note c"])
        self.assertEqual(play(book, Filling([("x", []), ("y", [])])), play(book, Filling()))


class References(unittest.TestCase):
    def check(self, rows, refs, filled=Filling(), head=THREE):
        self.assertEqual(play(read(head, rows), filled).refs, refs, rows)

    def test_ahead_of_all_notes_with_the_label(self):
        self.check(["ref cat", "note c", "note c cat", "note c cat"], (("cat", 1, (2,)),))

    def test_between_two(self):
        self.check(["note c cat", "note c", "ref cat", "note c cat"], (("cat", 0, (1,)),))
        self.check(["note c cat", "note c cat", "ref cat", "note c cat"], (("cat", 1, (2,)),))

    def test_behind_the_last_one(self):
        self.check(["note c cat", "note c dog", "note c cat", "note c", "ref cat"], (("cat", 2, (3,)),))

    def test_the_note_just_ahead_and_just_behind(self):
        rows = ["note c cat", "ref cat", "note c cat", "ref cat"]
        self.check(rows, (("cat", 0, (1,)), ("cat", 1, (2,))))
        self.check(["ref cat", "note c cat"], (("cat", 0, (1,)),))

    def test_several_in_order(self):
        rows = ["ref dog", "note c cat", "note f dog", "ref cat", "ref dog", "ref cat"]
        wanted = (("dog", 1, (1, 1)), ("cat", 0, (1,)), ("dog", 1, (1, 1)), ("cat", 0, (1,)))
        self.check(rows, wanted)

    def test_notes_of_different_counters_with_one_label(self):
        rows = ["note c cat", "ref cat", "note f cat", "ref cat", "note r", "ref cat"]
        self.check(rows, (("cat", 0, (1,)), ("cat", 1, (1, 1)), ("cat", 1, (1, 1))))

    def test_the_prints_are_those_of_the_note(self):
        rows = ["note c", "note f cat", "open x", "ref cat", "note f cat", "set f 9"]
        self.check(rows, (("cat", 1, (1, 1)),), filling(x="skip c 5"))
        self.check(["open x", *rows], (("cat", 1, (6, 1)),), filling(x="skip c 5"))
        self.check(["ref cat", "open x", "note f cat"], (("cat", 0, (5, 1)),), filling(x="skip c 5"))

    def test_parts_that_are_put_in_twice(self):
        parts = [Part("a", [Ref("cat"), Note("c", "cat")]), Part("b", [Put("a"), Put("a"), Ref("cat")])]
        refs = play(Book([("c", "")], parts), Filling()).refs
        self.assertEqual(refs, (("cat", 0, (1,)), ("cat", 0, (1,)), ("cat", 1, (2,))))

    def test_notes_without_a_label_are_counted(self):
        rows = ["note c", "note f", "note f cat", "note c", "ref cat"]
        self.check(rows, (("cat", 2, (1, 2)),))


class Compared(unittest.TestCase):
    def test_books_by_chance(self):
        dice = random.Random(10)
        for step in range(1500):
            text = texts.any_text(dice)
            told = texts.any_filling(dice, text)
            played = play(Book.read(text), texts.filling_of(told))
            wanted = numbering.played(text, told)
            self.assertEqual((played.notes, played.refs, played.ends), wanted, (text, told))

    def test_equal_results(self):
        book = Book.read("\n".join(LINES))
        one, same, other = play(book, Filling()), play(book, filling(x="skip f 1")), play(book, filling(x="skip c 1"))
        self.assertIs(one == same, True)
        self.assertIs(one == other, False)
        self.assertIs(one != same, False)
        self.assertIs(one == (one.notes, one.refs, one.ends), False)

    def test_results_that_differ_in_one_thing(self):
        head = ["counter c"]
        for rows, others in (
            (["note c"], ["note c", "set c 1", "keep c"]), (["note c a", "ref a"], ["note c a"]),
            (["note c", "set c 0"], ["set c 2", "note c", "set c 0"]),
        ):
            one, other = play(read(head, rows), Filling()), play(read(head, others), Filling())
            self.assertIs(one == other, False)
            self.assertIs(one != other, True)


class Limits(unittest.TestCase):
    def test_200_rows_and_full_fillings(self):
        rows = [Note("f", "cat"), Open("x"), Note("r"), Open("y"), Ref("cat"), Open("z"), Note("c"), Open("w")]
        head = [("c", ""), ("f", "c"), ("r", "f")]
        book = Book(head, [Part("a", rows), Part("b", [Put("a")] * 5), Part("d", [Put("b")] * 5)])
        self.assertEqual(len(book.unrolled), 200)
        full = [Skip("c", 10 ** 9)] * 5 + [Set("f", 10 ** 9)] * 4 + [Skip("r", 10 ** 9)]
        start = time.perf_counter()
        played = play(book, Filling([(name, full) for name in "wxyz"]))
        self.assertLess(time.perf_counter() - start, 2)
        self.assertEqual(len(played.notes), 75)
        self.assertEqual(played.ends, ((500 * 10 ** 9 + 25, 0), (10 ** 9, 0), (10 ** 9, 0)))
        self.assertEqual(played.refs[0], ("cat", 0, (0, 1)))


if __name__ == "__main__":
    unittest.main()
