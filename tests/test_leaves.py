"""Points 13 and 14: leaves, and the fillings that they allow."""

import itertools
import random
import unittest

from partnotes.books import Book, Part
from partnotes.errors import InvalidLeaves
from partnotes.leaves import Leaves
from partnotes.numbers import Filling
from partnotes.rows import Note, Open, Set, Skip
from tests import numbering, texts
from tests.samples import any_values, no_strings, wrong_names

ONE = ("x", "f", "on")
OTHER = ("y", "c", "any")


def wrong_triples():
    """Values that are no triples of two names and a word."""
    wrong = [*any_values(), ["x", "f", "on"], ("x", "f"), ("x", "f", "on", "on"), ("x", "on"), ("on",), ()]
    wrong += [(name, "f", "on") for name in wrong_names()] + [("x", name, "any") for name in wrong_names()]
    words = [value for value in any_values() if value not in ("on", "any")]
    words += ["On", "ON", "on ", "any ", "off", "o", "an", "anyy", ["on"], ("on",)]
    wrong += [("x", "f", word) for word in words]
    return wrong + [("on", "x", "f"), ("x", "on", "f"), (ONE,), [ONE], (ONE, ONE, ONE), "x f on", Leaves([ONE])]


def some_leaves():
    """Leaves of all kinds over two names and two counters."""
    triples = [[(name, counter, word)] for name in "xy" for counter in "cf" for word in ("on", "any")]
    mixed = [[*one, *other] for one, other in itertools.product(triples, repeat=2)]
    every = [(name, counter, "any") for name in "xy" for counter in "cf"]
    return [Leaves(items) for items in [[], *triples, *mixed, every, [*every[1:], ("x", "c", "on")]]]


def words_of(leaves):
    """The words of leaves, by pairs of names."""
    return {(name, counter): word for name, counter, word in leaves.pairs}


def leaves_of(words):
    return Leaves([(*pair, word) for pair, word in words.items() if word])


class Invalid(unittest.TestCase):
    def at(self, items):
        with self.assertRaises(InvalidLeaves, msg=repr(items)) as caught:
            Leaves(items)
        return caught.exception.at

    def test_no_sequences(self):
        for value in [*any_values(), {ONE: 1}, ONE[0], "x f on", Leaves(), Leaves([ONE])]:
            if not isinstance(value, (list, tuple)):
                self.assertEqual(self.at(value), 0)

    def test_a_triple_alone_is_no_sequence_of_triples(self):
        self.assertEqual(self.at(ONE), 0)
        self.assertEqual(self.at(list(ONE)), 0)

    def test_wrong_things(self):
        for value in wrong_triples():
            self.assertEqual(self.at([value]), 0)
            self.assertEqual(self.at((value, ONE)), 0)
            self.assertEqual(self.at([ONE, OTHER, value]), 2)
            self.assertEqual(self.at((ONE, value, OTHER)), 1)

    def test_the_first_wrong_thing(self):
        wrong = wrong_triples()[::7]
        for one, other in itertools.product(wrong, wrong):
            self.assertEqual(self.at([ONE, one, OTHER, other]), 1)
        self.assertEqual(self.at([ONE] * 9 + [None] * 3), 9)


class Attributes(unittest.TestCase):
    def test_pairs(self):
        for items, pairs in (
            ([], ()), ((), ()), ([ONE], (ONE,)), ((OTHER, ONE), (ONE, OTHER)), ([ONE, ONE, ONE], (ONE,)),
            ([("b", "a", "on"), ("aa", "b", "any"), ("a", "b", "on"), ("a", "a", "any"), ("a", "ab", "on")],
             (("a", "a", "any"), ("a", "ab", "on"), ("a", "b", "on"), ("aa", "b", "any"), ("b", "a", "on"))),
        ):
            self.assertEqual(Leaves(items).pairs, pairs)
            self.assertIs(type(Leaves(items).pairs), tuple)
            self.assertEqual(len(Leaves(items)), len(pairs))

    def test_both_words(self):
        on, free = ("x", "f", "on"), ("x", "f", "any")
        for items in ([on, free], [free, on], [on, on, free], (free, on, free), [free, free]):
            leaves = Leaves(items)
            self.assertEqual((leaves.pairs, len(leaves), leaves.word_of("x", "f")), ((free,), 1, "any"))
        leaves = Leaves([on, ("x", "c", "any"), ("y", "f", "any"), free, ("y", "f", "on"), ("y", "c", "on")])
        pairs = (("x", "c", "any"), free, ("y", "c", "on"), ("y", "f", "any"))
        self.assertEqual((leaves.pairs, len(leaves)), (pairs, 4))

    def test_no_leaves(self):
        self.assertEqual((Leaves(), len(Leaves()), Leaves().pairs), (Leaves([]), 0, ()))

    def test_word_of(self):
        leaves = Leaves([ONE, OTHER, ("x", "c", "on"), ("x", "c", "any")])
        words = {("x", "f"): "on", ("y", "c"): "any", ("x", "c"): "any"}
        for name, counter in itertools.product(("x", "y", "c", "f", "q"), repeat=2):
            self.assertEqual(leaves.word_of(name, counter), words.get((name, counter), ""))
            self.assertEqual(Leaves().word_of(name, counter), "")

    def test_word_of_any_value(self):
        leaves = Leaves([ONE, OTHER])
        for value in [*any_values(), ONE, ("x", "f"), leaves, ["x"]]:
            if value != "f":
                self.assertEqual(leaves.word_of("x", value), "")
            if value not in ("x", "y"):
                self.assertEqual((leaves.word_of(value, "f"), leaves.word_of(value, value)), ("", ""))

    def test_text(self):
        for items, text in (
            ([], "-"), ([ONE], "x f on"), ([OTHER, ONE], "x f on; y c any"), ([ONE, ("x", "f", "any")], "x f any"),
            ([("b", "zz", "on"), ("ab", "c", "any"), ("a", "c", "on")], "a c on; ab c any; b zz on"),
        ):
            self.assertEqual(str(Leaves(items)), text)

    def test_leaves_are_equal_if_their_texts_are(self):
        for one, other in itertools.product(some_leaves(), repeat=2):
            self.assertIs(one == other, str(one) == str(other))
            self.assertIs(one != other, str(one) != str(other))
        self.assertEqual(Leaves([ONE, OTHER]), Leaves((OTHER, ONE, OTHER)))
        self.assertEqual(Leaves([("x", "f", "any")]), Leaves([ONE, ("x", "f", "any")]))
        self.assertNotEqual(Leaves([("x", "f", "any")]), Leaves([ONE]))

    def test_leaves_are_equal_to_nothing_else(self):
        leaves = Leaves([ONE])
        for value in ["x f on", "-", [ONE], (ONE,), ONE, {ONE: 1}, Leaves, *no_strings()]:
            if not isinstance(value, Leaves):
                for one in (leaves, Leaves()):
                    self.assertIs(one == value, False)
                    self.assertIs(value == one, False)
                    self.assertIs(one != value, True)


class Operators(unittest.TestCase):
    def test_either_and_both(self):
        strength = {"": 0, "on": 1, "any": 2}
        pairs = [(name, counter) for name in "xy" for counter in "cf"]
        for p, q in itertools.product(some_leaves(), repeat=2):
            one, other = words_of(p), words_of(q)
            most = {pair: max(one.get(pair, ""), other.get(pair, ""), key=strength.get) for pair in pairs}
            least = {pair: min(one.get(pair, ""), other.get(pair, ""), key=strength.get) for pair in pairs}
            self.assertEqual(str(p | q), str(leaves_of(most)))
            self.assertEqual(str(p & q), str(leaves_of(least)))
            self.assertIsInstance(p | q, Leaves)
            self.assertIsInstance(p & q, Leaves)
            below = all(strength[one.get(pair, "")] <= strength[other.get(pair, "")] for pair in pairs)
            self.assertIs(p <= q, below)
            self.assertIs(q >= p, below)

    def test_nothing_shared(self):
        p, q = Leaves([("x", "c", "on"), ("y", "f", "any")]), Leaves([("x", "f", "on"), ("y", "c", "any")])
        self.assertEqual(str(p | q), "x c on; x f on; y c any; y f any")
        self.assertEqual(str(p & q), "-")
        self.assertEqual((p <= q, p >= q), (False, False))

    def test_something_shared(self):
        p = Leaves([("x", "c", "on"), ("x", "f", "any"), ("y", "c", "on")])
        q = Leaves([("x", "c", "any"), ("x", "f", "on"), ("y", "f", "on")])
        self.assertEqual(str(p | q), "x c any; x f any; y c on; y f on")
        self.assertEqual(str(p & q), "x c on; x f on")
        self.assertEqual((p <= q, p >= q), (False, False))
        self.assertEqual((p & q <= p, p & q <= q, p | q >= p, p | q >= q), (True, True, True, True))

    def test_all_shared(self):
        for p in some_leaves():
            self.assertEqual((p | p, p & p, p <= p, p >= p), (p, p, True, True))
            self.assertEqual((p | Leaves(), p & Leaves()), (p, Leaves()))
            self.assertEqual((Leaves() <= p, p >= Leaves()), (True, True))
            self.assertEqual((p <= Leaves(), Leaves() >= p), (len(p) == 0, len(p) == 0))

    def test_on_is_less_than_any(self):
        on, free = Leaves([("x", "f", "on")]), Leaves([("x", "f", "any")])
        self.assertEqual((on <= free, on >= free, free <= on, free >= on), (True, False, False, True))
        self.assertEqual((on | free, free | on, on & free, free & on), (free, free, on, on))

    def test_anything_but_leaves(self):
        leaves = Leaves([ONE])
        for value in [*any_values(), [ONE], (ONE,), {}, {ONE}, "x f on", Leaves, Filling()]:
            if isinstance(value, Leaves):
                continue
            for one in (leaves, Leaves()):
                for call in (
                    lambda: one | value, lambda: one & value, lambda: one <= value, lambda: one >= value,
                    lambda: value | one, lambda: value & one, lambda: value <= one, lambda: value >= one,
                ):
                    self.assertRaises(TypeError, call)

    def test_leaves_do_not_change(self):
        for p, q in itertools.product(some_leaves()[::3], repeat=2):
            texts_before = str(p), str(q)
            both, either = p, p
            both &= q
            either |= q
            self.assertEqual((str(p), str(q)), texts_before)
            self.assertEqual((both, either), (p & q, p | q))


class Allow(unittest.TestCase):
    def setUp(self):
        pic = Part("pic", [Note("f"), Open("y")])
        spare = Part("more", [Open("z")])
        self.book = Book.read("\n".join([
            "counter c", "counter f under c", "counter r", str(pic), str(spare), "part text", "open x", "put pic",
            "open x",
        ]))
        self.leaves = Leaves([
            ("x", "c", "on"), ("x", "f", "any"), ("y", "r", "any"), ("z", "c", "any"), ("x", "q", "any"),
        ])

    def check(self, filling, wanted):
        self.assertIs(self.leaves.allow(self.book, Filling(filling)), wanted, filling)

    def test_rows(self):
        self.check([("x", [Skip("c", 1)])], True)
        self.check([("x", [Skip("f", 10 ** 9)])], True)
        self.check([("x", [Set("f", 0)])], True)
        self.check([("x", [Set("f", 3), Skip("f", 1), Skip("c", 4), Set("f", 0)])], True)
        self.check([("y", [Skip("r", 1), Set("r", 9)]), ("x", [Skip("c", 1)])], True)
        self.check([("x", [Skip("r", 1)])], False)
        self.check([("y", [Skip("c", 1)])], False)
        self.check([("y", [Set("f", 0)])], False)

    def test_set_where_only_on_is_allowed(self):
        self.check([("x", [Set("c", 0)])], False)
        self.check([("x", [Skip("c", 1), Set("c", 7)])], False)
        self.check([("x", [Set("f", 1), Set("c", 7), Skip("f", 1)])], False)
        self.check([("x", [Skip("c", 1)]), ("y", [Set("r", 7)])], True)

    def test_one_wrong_row_of_many(self):
        good = [Skip("c", 1), Set("f", 2), Skip("f", 3)]
        for at in range(4):
            for wrong in (Set("c", 1), Skip("r", 1), Set("r", 1), Skip("q", 1), Set("q", 1)):
                self.check([("x", [*good[:at], wrong, *good[at:]])], False)
                self.check([("y", [Skip("r", 1)]), ("x", [*good[:at], wrong, *good[at:]])], False)
        self.check([("x", good)], True)

    def test_names_that_the_book_does_not_have(self):
        self.check([("z", [Skip("c", 1)])], False)
        self.check([("q", [Skip("c", 1)])], False)
        self.check([("x", [Skip("c", 1)]), ("z", [Skip("c", 1)])], False)
        self.check([("text", [Skip("c", 1)])], False)
        opened = self.book.having("text", 0, Open("z"))
        self.assertIs(self.leaves.allow(opened, Filling([("z", [Skip("c", 1)])])), True)

    def test_counters_that_the_book_does_not_have(self):
        self.check([("x", [Skip("q", 1)])], False)
        self.check([("x", [Set("q", 1)])], False)
        other = Book.read(str(self.book).replace("counter r", "counter r\ncounter q"))
        self.assertIs(self.leaves.allow(other, Filling([("x", [Set("q", 1)])])), True)

    def test_names_without_rows(self):
        for name in ("x", "y", "z", "q"):
            self.check([(name, [])], True)
            self.check([(name, []), ("r", ()), ("c", [])], True)
        self.check([("z", []), ("x", [Set("f", 1)])], True)

    def test_the_empty_filling(self):
        self.check([], True)
        for book in (self.book, Book([], [Part("a")])):
            self.assertIs(Leaves().allow(book, Filling()), True)
        self.assertIs(Leaves().allow(self.book, Filling([("x", [Skip("c", 1)])])), False)
        self.assertIs(Leaves([("x", "c", "any")]).allow(Book([], [Part("a")]), Filling([("x", [Skip("c", 1)])])), False)
        self.assertIs(Leaves([("x", "c", "on")]).allow(Book([], [Part("a", [Open("x")])]),
                                                       Filling([("x", [Skip("c", 1)])])), False)

    def test_counters_that_start_anew_are_no_matter(self):
        leaves = Leaves([("x", "c", "on")])
        self.assertIs(leaves.allow(self.book, Filling([("x", [Skip("c", 1)])])), True)
        self.assertIs(leaves.allow(self.book, Filling([("x", [Skip("c", 1), Skip("f", 1)])])), False)

    def test_both_words(self):
        leaves = Leaves([("x", "c", "any"), ("x", "c", "on")])
        self.assertIs(leaves.allow(self.book, Filling([("x", [Set("c", 1), Skip("c", 1)])])), True)

    def test_books_by_chance(self):
        dice = random.Random(14)
        counts = {True: 0, False: 0}
        for step in range(2000):
            text = texts.any_text(dice)
            told = texts.any_filling(dice, text, 2)
            pairs = [(name, counter) for name in texts.NAMES for counter in texts.COUNTERS]
            words = {pair: dice.choice(["", "on", "any", "any", "any"]) for pair in pairs}
            wanted = numbering.allowed(text, words, told)
            result = leaves_of(words).allow(Book.read(text), texts.filling_of(told))
            self.assertIs(result, wanted, (text, told, words))
            counts[wanted] += 1
        self.assertGreater(min(counts.values()), 300)


if __name__ == "__main__":
    unittest.main()
