"""Points 25 and 26: desks and their commands."""

import random
import unittest

from partnotes.books import Book
from partnotes.deciding import example, faults
from partnotes.desk import Desk
from partnotes.errors import InvalidBook, InvalidCommand, InvalidText, NoPlace
from partnotes.leaves import Leaves
from partnotes.live import Live
from partnotes.numbers import FAULTS
from partnotes.rows import Note
from tests import drawn
from tests.heads import LINES
from tests.samples import any_values

TEXT = "counter c\ncounter f under c\npart pic\nnote f cat\npart text\nnote c dog\nput pic\nopen x\nref cat"
BOOK = "book " + TEXT.replace("\n", " ; ")
# One of each command in its right form.
RIGHT = ("leave x c on", "insert 0 note c", "insert 4 skip f 2", "remove 3", "print 0", "faults", "example gap", "undo")


def desk_of(command=BOOK):
    desk = Desk()
    desk.say(command)
    return desk


def state(desk):
    """All that a desk keeps."""
    live = desk.live
    return None if live is None else (str(live.book), str(live.leaves), len(live))


class Said(unittest.TestCase):
    def invalid(self, desk, command):
        """Check that a command is none, and that nothing changes."""
        before, live = state(desk), desk.live
        self.assertRaises(InvalidCommand, desk.say, command)
        self.assertEqual(state(desk), before)
        self.assertIs(desk.live, live)

    def wrong(self, *commands):
        """Check commands with and without a live book."""
        for command in commands:
            self.invalid(Desk(), command)
            self.invalid(desk_of(), command)


class Books(Said):
    def test_a_new_book(self):
        desk = Desk()
        self.assertIsNone(desk.live)
        self.assertEqual(desk.say(BOOK), "4")
        self.assertIsInstance(desk.live, Live)
        self.assertEqual(state(desk), (TEXT, "-", 0))

    def test_the_number_of_the_rows_of_the_text(self):
        for text, many in (("part a", "0"), ("counter c ; part a ; note c ; part b", "0"), ("part a ; open x", "1"),
                           ("counter c ; part a" + " ; note c" * 12, "12")):
            self.assertEqual(Desk().say("book " + text), many)

    def test_a_new_book_behind_changes(self):
        desk = desk_of()
        desk.say("leave x c on")
        desk.say("insert 0 note c")
        first = desk.live
        self.assertEqual(desk.say("book part a ; open x"), "1")
        self.assertEqual(state(desk), ("part a\nopen x", "-", 0))
        self.assertIsNot(desk.live, first)
        self.assertEqual(desk.say("undo"), "nothing")

    def test_books_that_cannot_be_read(self):
        desk = desk_of()
        desk.say("leave x c on")
        before, live = state(desk), desk.live
        for command, at in (
            ("book x", 0), ("book part a ; note", 1), ("book counter c ; part a ; note c ; counter f", 3),
            ("book part a;note c", 0), ("book part a ;", 0), ("book ; part a", 0), ("book ;", 0),
            ("book part a ; ; note c", 1), ("book part a\tb", 0), ("book part a ; open x ; part", 2),
            ("book book part a", 0), ("book -", 0),
        ):
            for one in (desk, Desk()):
                with self.assertRaises(InvalidText) as caught:
                    one.say(command)
                self.assertEqual(caught.exception.at, at, command)
        for command, word in (
            ("book counter c", "parts"), ("book part a ; part a", "parts"), ("book part a ; note c", "counter"),
            ("book counter c ; counter c ; part a", "counters"), ("book part a ; put a", "part"),
            ("book part a ; ref x", "ref"), ("book counter f under c ; part a", "counters"),
        ):
            for one in (desk, Desk()):
                with self.assertRaises(InvalidBook) as caught:
                    one.say(command)
                self.assertEqual(caught.exception.word, word, command)
        self.assertEqual(state(desk), before)
        self.assertIs(desk.live, live)
        self.assertEqual(desk.say("undo"), "undone")

    def test_a_desk_without_a_book_stays_without_one(self):
        desk = Desk()
        self.assertRaises(InvalidText, desk.say, "book x")
        self.assertIsNone(desk.live)
        self.invalid(desk, "undo")

    def test_semicolons_are_replaced_from_left_to_right(self):
        with self.assertRaises(InvalidText) as caught:
            Desk().say("book part a ; open x ; ; ; open y")
        self.assertEqual(caught.exception.at, 2)
        self.assertEqual(Desk().say("book part a ; open x ; open y"), "2")

    def test_without_a_text(self):
        self.wrong("book", "book ", " book", "Book part a", "books part a", "book  part a")


class Leaving(Said):
    def test_leaves(self):
        desk = desk_of()
        self.assertEqual(desk.say("leave x c on"), "x c on")
        self.assertEqual(desk.say("leave x f any"), "x c on; x f any")
        self.assertEqual(desk.say("leave x c any"), "x c any; x f any")
        self.assertEqual(desk.say("leave x c on"), "x c any; x f any")
        self.assertEqual((desk.live.leaves, len(desk.live)), (Leaves([("x", "c", "any"), ("x", "f", "any")]), 4))
        self.assertEqual(desk.say("undo"), "undone")
        self.assertEqual((str(desk.live.leaves), len(desk.live)), ("x c any; x f any", 3))

    def test_names_that_the_book_does_not_have(self):
        desk = desk_of()
        self.assertEqual(desk.say("leave q r any"), "q r any")
        self.assertEqual(desk.say("faults"), "none")

    def test_what_is_none(self):
        self.wrong("leave", "leave x", "leave x c", "leave x c on on", "leave x c off", "leave x c", "leave x c ON",
                   "leave X c on", "leave x C on", "leave x1 c on", "leave x abcde on", "leave note c on",
                   "leave x open on", "leave on x c", "leave x c any any", "leave x part any", "leave x c on;",
                   "Leave x c on", "leaves x c on", "leave - c on", "leave x \u00e4 on")


class Changing(Said):
    def test_insert(self):
        desk = desk_of()
        self.assertEqual(desk.say("insert 0 note c"), "5")
        self.assertEqual(desk.say("insert 5 note f cow"), "6")
        self.assertEqual(desk.say("insert 2 set f 1000"), "7")
        rows = ["note c", "note c dog", "set f 1000", "put pic", "open x", "ref cat", "note f cow"]
        self.assertEqual([str(row) for row in desk.live.book.parts[-1].rows], rows)
        self.assertEqual(len(desk.live), 3)
        for row in ("keep c", "back f", "ref cow", "put pic", "open y", "skip c 1", "note f dog"):
            desk.say("insert 7 " + row)

    def test_remove(self):
        desk = desk_of()
        self.assertEqual(desk.say("remove 3"), "ref cat")
        self.assertEqual(desk.say("remove 0"), "note c dog")
        self.assertEqual(desk.say("remove 1"), "open x")
        self.assertEqual(desk.say("remove 0"), "put pic")
        self.assertRaises(NoPlace, desk.say, "remove 0")
        self.assertEqual(len(desk.live), 4)

    def test_errors_of_the_live_book(self):
        desk = desk_of()
        before = state(desk)
        for command, error, told in (
            ("insert 5 note c", NoPlace, {"at": 5}), ("insert 9999 note q", NoPlace, {"at": 9999}),
            ("insert 0 note q", InvalidBook, {"word": "counter"}), ("insert 4 put text", InvalidBook, {"word": "part"}),
            ("insert 4 ref cow", InvalidBook, {"word": "ref"}), ("remove 4", NoPlace, {"at": 4}),
            ("remove 1", InvalidBook, {"word": "ref"}), ("print 2", NoPlace, {"at": 2}),
            ("print 100", NoPlace, {"at": 100}),
        ):
            with self.assertRaises(error) as caught:
                desk.say(command)
            self.assertEqual(vars(caught.exception), told, command)
            self.assertEqual(state(desk), before)

    def test_rows_that_are_none(self):
        rows = ["note", "note C", "note c d e", "skip c", "skip c 0", "skip c 01", "set c -1", "set c", "part a",
                "counter c", "put", "open x y", "keep", "notes c", "set c 99999999999", "note c ;", "ref 1", "0"]
        self.wrong(*[f"insert 0 {row}" for row in rows], "insert", "insert 0", "insert note c", "insert 0note c")

    def test_numbers_that_are_none(self):
        for at in ("00", "01", "0001", "007", "10000", "99999", "12345", "-1", "+1", "-0", "1.0", "x", "1_0", "0x1", "",
                   " 1", "\u0661", "\u00b2", "1,", "one"):
            self.wrong(f"insert {at} note c", f"remove {at}", f"print {at}")

    def test_numbers_with_four_digits(self):
        desk = desk_of()
        for command in ("insert 1000 note c", "remove 1000", "print 9999"):
            self.assertRaises(NoPlace, desk.say, command)
        self.assertEqual(desk.say("remove 3"), "ref cat")

    def test_too_many_words(self):
        self.wrong("remove", "remove 0 0", "remove 3 ref", "print", "print 0 1", "print c 0")


class Asking(Said):
    def test_print(self):
        desk = desk_of()
        self.assertEqual((desk.say("print 0"), desk.say("print 1")), ("1", "1.1"))
        desk.say("insert 0 set c 12")
        desk.say("insert 5 note f")
        self.assertEqual([desk.say(f"print {at}") for at in range(3)], ["13", "13.1", "13.2"])

    def test_faults(self):
        desk = desk_of()
        self.assertEqual(desk.say("faults"), "none")
        desk.say("insert 4 note f")
        self.assertEqual(desk.say("faults"), "none")
        desk.say("leave x c on")
        self.assertEqual(desk.say("faults"), "moved")
        desk.say("leave x f any")
        self.assertEqual(desk.say("faults"), "astray gap moved twin")

    def test_example(self):
        desk = desk_of()
        for fault in FAULTS:
            self.assertEqual(desk.say("example " + fault), "never")
        desk.say("insert 4 note f")
        desk.say("leave x f any")
        for fault in ("astray", "gap", "moved", "twin"):
            told = desk.say("example " + fault)
            self.assertEqual(told, str(example(desk.live.book, desk.live.leaves, fault)))
            self.assertRegex(told, r"\Ax: (set|skip) f \d")
        self.assertEqual(desk.say("example fall"), "never")
        desk.say("insert 0 skip c 1")
        self.assertEqual(desk.say("example gap"), "-")

    def test_faults_that_are_none(self):
        self.wrong("example", "example twins", "example Twin", "example none", "example gap moved", "example gap gap",
                   "faults gap", "faults twin fall", "examples gap", "fault", "Faults", "faults;")

    def test_undo(self):
        desk = desk_of()
        self.assertEqual(desk.say("undo"), "nothing")
        desk.say("insert 0 note c")
        desk.say("remove 0")
        desk.say("leave x c on")
        self.assertEqual([desk.say("undo") for step in range(5)], ["undone"] * 3 + ["nothing"] * 2)
        self.assertEqual(state(desk), (TEXT, "-", 0))
        self.wrong("undo 1", "undo undo", "Undo", "undone")

    def test_the_live_book_may_be_used_by_others(self):
        desk = desk_of()
        desk.live.several([Note("c"), Note("c")])
        self.assertEqual((desk.say("print 3"), desk.say("undo"), desk.say("undo")), ("3", "undone", "nothing"))


class Invalid(Said):
    def test_blanks(self):
        for command in (*RIGHT, BOOK):
            self.wrong(" " + command, command + " ", command.replace(" ", "  ", 1) + " " * (" " not in command),
                       "  " + command, command.replace(" ", "\t") + "\t")

    def test_two_blanks_anywhere(self):
        for command in (*RIGHT, "book part a ; open x ; open y"):
            for at in [at for at, letter in enumerate(command) if letter == " "]:
                self.wrong(command[:at] + " " + command[at:])

    def test_newlines(self):
        for command in (*RIGHT, BOOK, "book part a", "book"):
            self.wrong(command + "\n", "\n" + command, command.replace(" ", "\n", 1) + "\n" * (" " not in command))
        self.wrong("\n", "book part a\nopen x", "book part a ;\nopen x", "insert 0 note c\nnote f")

    def test_one_word_too_few(self):
        for command in RIGHT:
            if " " in command and not command.startswith("insert 4"):
                self.wrong(command.rpartition(" ")[0])
        self.wrong("insert 4 skip f", "insert 4 skip", "book")

    def test_one_word_too_many(self):
        for command in RIGHT:
            if not command.startswith("insert"):
                self.wrong(command + " x", command + " 0", command + " gap", command + " on")
        self.wrong("insert 0 note c d e", "insert 4 skip f 2 2", "insert 0 open x y")
        # A label is one word more, and still a row.
        self.assertEqual(desk_of().say("insert 0 note c d"), "5")

    def test_any_values(self):
        for value in [*any_values(), ["undo"], ("undo",), b"undo"]:
            self.wrong(value)

    def test_words_that_are_none(self):
        self.wrong("", " ", "x", "note c", "live", "say faults", "part a", ";", "several", "use x c on", "prints 0",
                   "twins", "FAULTS", "counter c", "-", "0", "undo;", "undo ; undo")

    def test_every_command_ahead_of_the_first_book(self):
        desk = Desk()
        for command in (*RIGHT, "print 9999", "insert 99 note q", "remove 99"):
            self.invalid(desk, command)
        self.assertIsNone(desk.live)
        desk.say(BOOK)
        for command in RIGHT:
            self.assertIsInstance(desk.say(command), str)

    def test_wrong_commands_come_ahead_of_errors_of_the_book(self):
        self.wrong("insert 99 note", "insert 99 note q r s", "remove 99 99", "print 99 99", "book part a ; x ")


class Two(unittest.TestCase):
    def test_two_desks_asked_by_turns(self):
        dice = random.Random(28)
        alone, first, second = [], desk_of(), Desk()
        second.say("book counter c ; part a ; note c ; open y")
        commands = [*RIGHT, "insert 1 note c", "leave y c any", "print 1", "undo", "remove 0"]
        chosen = [dice.choice(commands) for step in range(120)]
        alone = [self.told(desk, chosen) for desk in (desk_of(), desk_of("book counter c ; part a ; note c ; open y"))]
        found = [], []
        for command in chosen:
            found[0].extend(self.told(first, [command]))
            found[1].extend(self.told(second, [command]))
        self.assertEqual(list(found), alone)
        self.assertNotEqual(*alone)

    def told(self, desk, commands):
        """What a desk says, or the error that it raises."""
        found = []
        for command in commands:
            try:
                found.append(desk.say(command))
            except (NoPlace, InvalidBook) as error:
                found.append((type(error), vars(error)))
        return found

    def test_the_same_question_twice(self):
        desk, other = desk_of(), desk_of()
        desk.say("leave x c any")
        asked = ["print 1", "faults", "example gap", "example twin", "example moved"]
        first = [desk.say(command) for command in asked]
        other.say("leave x f on")
        self.assertRaises(InvalidCommand, desk.say, "print")
        self.assertEqual([desk.say(command) for command in asked[::-1]], first[::-1])

    def test_parameters_by_name(self):
        self.assertEqual(Desk().say(command=BOOK), "4")

    def test_books_by_chance(self):
        dice = random.Random(29)
        for text, book, leaves in drawn.some_books(dice, 40, 10 ** 9):
            desk = desk_of("book " + text.replace("\n", " ; "))
            for triple in leaves.pairs:
                told = desk.say("leave " + " ".join(triple))
            self.assertEqual(str(desk.live.leaves), told if leaves.pairs else "-")
            self.assertEqual((desk.live.book, desk.live.leaves), (book, leaves))
            self.assertEqual(desk.say("faults"), " ".join(faults(book, leaves)) or "none")


class Document(unittest.TestCase):
    def test_examples(self):
        desk = Desk()
        commands = ["book " + " ; ".join(LINES), "print 4", "faults", "leave x c on", "faults", "example twin"]
        told = [desk.say(command) for command in commands]
        self.assertEqual(told, ["6", "1.4", "none", "x c on", "gap moved", "never"])
        self.assertEqual(desk.live.book, Book.read("\n".join(LINES)))


if __name__ == "__main__":
    unittest.main()
