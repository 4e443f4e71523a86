"""Point 12: maps."""

import itertools
import random
import time
import unittest

from partnotes.books import Book, Part
from partnotes.errors import InvalidMap, Mismatch, NoName
from partnotes.maps import Map, map_of
from partnotes.rows import Note, Open, Put, Skip
from tests import model, numbering, texts
from tests.samples import any_values, no_integers, no_strings

WORDS = ("now", "box", "at")
TERMS = [(word, more) for word in WORDS for more in (0, 1, 5)]
MANY = 10 ** 12
LINES = [
    "counter c", "counter f under c", "part pic", "note f", "note f", "part book", "note c", "put pic", "keep f",
    "open x", "back f", "put pic",
]


def all_maps():
    return [Map(now, box) for now in TERMS for box in TERMS]


def wrong_terms():
    """Values that are no pairs of a word and a number."""
    wrong = [*any_values()]
    wrong += [[word, 0] for word in WORDS] + [(word,) for word in WORDS] + [(word, 0, 0) for word in WORDS]
    wrong += [(word, value) for word in WORDS for value in [*no_integers(), -1, -2, -10 ** 12]]
    wrong += [(value, 0) for value in any_values()]
    wrong += [("", 0), ("Now", 0), ("now ", 0), ("no", 0), ("kept", 0), ("number", 0), (0, "now"), ((("now", 0),))]
    return wrong


def value_of(term, number, kept):
    word, more = term
    return {"now": number + more, "box": kept + more, "at": more}[word]


class Attributes(unittest.TestCase):
    def word(self, *terms):
        with self.assertRaises(InvalidMap, msg=repr(terms)) as caught:
            Map(*terms)
        return caught.exception.word

    def test_attributes(self):
        for now, box in itertools.product([*TERMS, ("at", MANY), ("now", 10 ** 40)], repeat=2):
            self.assertEqual((Map(now, box).now, Map(now, box).box), (now, box))
        self.assertEqual((Map().now, Map().box), (("now", 0), ("box", 0)))
        self.assertEqual((Map(("at", 3)).now, Map(("at", 3)).box), (("at", 3), ("box", 0)))
        self.assertEqual(Map(box=("now", 2)).now, ("now", 0))

    def test_wrong_now(self):
        for value in wrong_terms():
            if value not in TERMS:
                self.assertEqual(self.word(value), "now")
                self.assertEqual(self.word(value, ("box", 0)), "now")

    def test_wrong_box(self):
        for value in wrong_terms():
            if value not in TERMS:
                self.assertEqual(self.word(("now", 0), value), "box")
                self.assertEqual(self.word(("at", 7), value), "box")
                with self.assertRaises(InvalidMap) as caught:
                    Map(box=value)
                self.assertEqual(caught.exception.word, "box")

    def test_two_wrong_arguments(self):
        wrong = wrong_terms()[::11]
        for now, box in itertools.product(wrong, wrong):
            self.assertEqual(self.word(now, box), "now")

    def test_text(self):
        for terms, text in (
            ((), "now+0 box+0"), ((("now", 3),), "now+3 box+0"), ((("at", 5), ("now", 2)), "at 5 now+2"),
            ((("box", 12), ("at", 0)), "box+12 at 0"), ((("box", 0), ("box", 1)), "box+0 box+1"),
            ((("at", MANY), ("now", MANY)), "at 1000000000000 now+1000000000000"),
        ):
            self.assertEqual(str(Map(*terms)), text)

    def test_maps_are_equal_if_their_texts_are(self):
        for one, other in itertools.product(all_maps(), repeat=2):
            self.assertIs(one == other, str(one) == str(other))
            self.assertIs(one != other, str(one) != str(other))
        self.assertEqual(len({str(one) for one in all_maps()}), 81)

    def test_maps_are_equal_to_nothing_else(self):
        for value in [str(Map()), (("now", 0), ("box", 0)), [("now", 0), ("box", 0)], Map, *no_strings()]:
            if not isinstance(value, Map):
                self.assertIs(Map() == value, False)
                self.assertIs(value == Map(), False)
                self.assertIs(Map() != value, True)


class Calls(unittest.TestCase):
    def test_calls(self):
        for one in all_maps():
            for number, kept in itertools.product((0, 1, 4, 9, MANY), repeat=2):
                result = one(number, kept)
                self.assertEqual(result, (value_of(one.now, number, kept), value_of(one.box, number, kept)))
                self.assertIs(type(result), tuple)

    def test_words(self):
        self.assertEqual(Map(("now", 2))(4, 9), (6, 9))
        self.assertEqual(Map(("box", 2), ("now", 1))(4, 9), (11, 5))
        self.assertEqual(Map(("at", 2), ("at", 1))(4, 9), (2, 1))


class Products(unittest.TestCase):
    def test_one_and_then_another_one(self):
        for one, other in itertools.product(all_maps(), repeat=2):
            both = one >> other
            self.assertIsInstance(both, Map)
            for number, kept in ((0, 0), (3, 20), (100, 7)):
                self.assertEqual(both(number, kept), other(*one(number, kept)))

    def test_the_order(self):
        on, at = Map(("now", 3)), Map(("at", 5))
        self.assertEqual((str(on >> at), str(at >> on)), ("at 5 box+0", "at 8 box+0"))
        keep, back = Map(box=("now", 0)), Map(("box", 0))
        self.assertEqual((str(keep >> back), str(back >> keep)), ("now+0 now+0", "box+0 box+0"))

    def test_nothing_else_stands_behind_or_ahead(self):
        for value in [*any_values(), ("now", 0), (("now", 0), ("box", 0)), "now+0 box+0", Map, print]:
            if not isinstance(value, Map):
                with self.assertRaises(TypeError, msg=repr(value)):
                    Map() >> value
                with self.assertRaises(TypeError, msg=repr(value)):
                    value >> Map()

    def test_maps_do_not_change(self):
        for one, other in itertools.product(all_maps()[::5], repeat=2):
            elder = one
            before = str(one), str(other)
            one >>= other
            self.assertEqual((str(elder), str(other)), before)
            self.assertEqual(one, elder >> other)
            self.assertIsNot(one, elder)

    def test_maps_that_do_nothing(self):
        for one in all_maps():
            self.assertEqual((one >> Map(), Map() >> one), (one, one))


class Times(unittest.TestCase):
    def test_few_times(self):
        for one in all_maps():
            product = Map()
            for many in range(12):
                self.assertEqual(one.times(many), product)
                self.assertEqual(str(one.times(many)), str(product))
                product = product >> one

    def test_no_and_one_time(self):
        for one in all_maps():
            self.assertEqual(str(one.times(0)), "now+0 box+0")
            self.assertEqual(one.times(1), one)
            self.assertIsInstance(one.times(0), Map)

    def test_very_many_times(self):
        start = time.perf_counter()
        for one in all_maps():
            product, half = one.times(MANY), one.times(MANY // 2)
            self.assertEqual(product, half >> half)
            self.assertEqual(product, one.times(MANY - 1) >> one)
            self.assertEqual(product, one >> one.times(MANY - 1))
        self.assertLess(time.perf_counter() - start, 5)

    def test_one_of_each_kind_very_many_times(self):
        for terms, text in (
            ((("now", 3),), "now+3000000000000 box+0"), ((("at", 3), ("now", 0)), "at 3 at 3"),
            ((("at", 3), ("box", 2)), "at 3 box+2000000000000"),
            ((("box", 1), ("box", 2)), "box+1999999999999 box+2000000000000"),
            ((("box", 1), ("now", 2)), "now+1500000000000 box+1500000000000"),
            ((("now", 1), ("now", 2)), "now+1000000000000 now+1000000000001"), ((("box", 4), ("at", 1)), "at 5 at 1"),
        ):
            self.assertEqual(str(Map(*terms).times(MANY)), text)
        swap = Map(("box", 1), ("now", 2))
        self.assertEqual(str(swap.times(MANY - 1)), "box+1499999999998 now+1499999999999")

    def test_maps_do_not_change(self):
        one = Map(("box", 1), ("now", 2))
        one.times(1)
        one.times(7)
        self.assertEqual(str(one), "box+1 now+2")

    def test_results_are_passed_on(self):
        one = Map(("now", 10 ** 9)).times(MANY).times(MANY).times(MANY)
        self.assertEqual(one.now, ("now", 10 ** 45))
        self.assertEqual(one(10 ** 45, 0), (2 * 10 ** 45, 0))


class Parts(unittest.TestCase):
    def test_the_example(self):
        book = Book.read("\n".join(LINES))
        step = map_of(book, "pic", "f")
        told = str(step), step(4, 9), str(step >> Map(("at", 0), ("now", 0))), str(step.times(MANY))
        self.assertEqual(told, ("now+2 box+0", (6, 9), "at 0 now+2", "now+2000000000000 box+0"))
        self.assertEqual(str(map_of(book, "pic", "c")), "now+0 box+0")

    def test_rows(self):
        head = ["counter c", "counter f under c", "counter r under f", "counter s"]
        for rows, wanted in (
            (["note f"], "now+0 box+0|now+1 box+0|at 0 box+0|now+0 box+0"),
            (["note f cat", "ref cat"], "now+0 box+0|now+1 box+0|at 0 box+0|now+0 box+0"),
            (["skip c 7"], "now+7 box+0|at 0 box+0|at 0 box+0|now+0 box+0"),
            (["skip r 2", "skip s 1"], "now+0 box+0|now+0 box+0|now+2 box+0|now+1 box+0"),
            (["set f 4"], "now+0 box+0|at 4 box+0|now+0 box+0|now+0 box+0"),
            (["keep f", "note f"], "now+0 box+0|now+1 now+0|at 0 box+0|now+0 box+0"),
            (["note f", "back f"], "now+0 box+0|box+0 box+0|at 0 box+0|now+0 box+0"),
            (["note f", "back f", "note f", "keep f"], "now+0 box+0|box+1 box+1|at 0 box+0|now+0 box+0"),
            (["keep r", "note c", "back r"], "now+1 box+0|at 0 box+0|now+0 now+0|now+0 box+0"),
            (["note f", "set r 3", "keep r"], "now+0 box+0|now+1 box+0|at 3 at 3|now+0 box+0"),
            ([], "now+0 box+0|now+0 box+0|now+0 box+0|now+0 box+0"),
        ):
            book = Book.read("\n".join([*head, "part a", *rows, "part b", "put a"]))
            for name in ("a", "b"):
                told = "|".join([str(map_of(book, name, counter)) for counter in "cfrs"])
                self.assertEqual(told, wanted, rows)

    def test_parts_that_put_others(self):
        first = ["counter c", "part a", "skip c 2", "part b", "put a", "keep c", "put a"]
        book = Book.read("\n".join([*first, "part d", "put b", "put a", "put b"]))
        told = [str(map_of(book, name, "c")) for name in "abd"]
        self.assertEqual(told, ["now+2 box+0", "now+4 now+2", "now+10 now+8"])

    def test_parts_that_the_text_does_not_put(self):
        book = Book.read("counter c\npart a\nnote c\npart b\nput a\nput a\npart d\nset c 1")
        self.assertEqual([str(map_of(book, name, "c")) for name in "abd"], ["now+1 box+0", "now+2 box+0", "at 1 box+0"])

    def test_open_places(self):
        book = Book.read("counter c\npart a\nopen x\npart b\nnote c\npart d\nput b\nput a\nset c 1\npart e\nput b")
        self.assertEqual([str(map_of(book, name, "c")) for name in "be"], ["now+1 box+0"] * 2)
        for name in "ad":
            self.assertRaises(Mismatch, map_of, book, name, "c")
        last = Book.read("counter c\npart a\nopen x\npart b\nput a\npart d\nput b\npart e\nnote c\nput d")
        for name in "abde":
            self.assertRaises(Mismatch, map_of, last, name, "c")

    def test_an_open_place_with_the_name_of_a_counter(self):
        book = Book.read("counter c\npart a\nnote c\npart b\nopen c")
        self.assertEqual(str(map_of(book, "a", "c")), "now+1 box+0")
        self.assertRaises(Mismatch, map_of, book, "b", "c")

    def test_parts_with_the_names_of_counters(self):
        book = Book.read("counter c\ncounter f under c\npart f\nnote c\npart c\nput f\nnote f")
        told = [str(map_of(book, name, counter)) for name in "fc" for counter in "cf"]
        self.assertEqual(told, ["now+1 box+0", "at 0 box+0", "now+1 box+0", "at 1 box+0"])

    def test_names_that_there_are_not(self):
        book = Book.read("\n".join(LINES))
        for value in [*any_values(), "c", "f", "x", "pics"]:
            for counter in ("f", value, "q", None):
                with self.assertRaises(NoName, msg=repr(value)) as caught:
                    map_of(book, value, counter)
                self.assertIs(caught.exception.name, value)
        for value in [*any_values(), "pic", "book", "x"]:
            if value not in ("c", "f"):
                for name in ("pic", "book"):
                    with self.assertRaises(NoName, msg=repr(value)) as caught:
                        map_of(book, name, value)
                    self.assertIs(caught.exception.name, value)

    def test_books_by_chance(self):
        dice = random.Random(12)
        opened = 0
        for step in range(600):
            text = texts.any_text(dice)
            book = Book.read(text)
            counters, parts = model.told(text)
            for (name, rows), counter in itertools.product(parts, [words[0] for words in counters]):
                if numbering.opened(parts, name):
                    opened += 1
                    self.assertRaises(Mismatch, map_of, book, name, counter)
                    continue
                for number, kept in ((0, 0), (7, 30), (50, 2)):
                    told = map_of(book, name, counter)(number, kept)
                    self.assertEqual(told, numbering.after(text, name, counter, number, kept), (text, name, counter))
        self.assertGreater(opened, 100)

    def test_very_long_parts_that_the_text_does_not_put(self):
        parts = [Part("a", [Skip("c", 1000)] * 20)]
        for name in ("b", "d", "e", "g"):
            parts.append(Part(name, [Put(parts[-1].name)] * 20))
        book = Book([("c", ""), ("f", "c")], [*parts, Part("h", [Note("c")])])
        start = time.perf_counter()
        self.assertEqual(str(map_of(book, "g", "c")), "now+3200000000 box+0")
        self.assertEqual(str(map_of(book, "g", "f")), "at 0 box+0")
        self.assertLess(time.perf_counter() - start, 1)
        self.assertRaises(Mismatch, map_of, book.having("a", 0, Open("x")), "g", "c")


if __name__ == "__main__":
    unittest.main()
