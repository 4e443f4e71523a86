"""Point 9: fillings."""

import itertools
import unittest

from partnotes.errors import InvalidFilling
from partnotes.numbers import Filling
from partnotes.rows import Set, Skip
from tests.samples import GOOD_NAMES, any_values, every_row, no_strings, wrong_names

ROWS = [Skip("f", 7), Set("c", 0)]


def wrong_parts():
    """Values that are no sequences of pairs of a name and rows."""
    wrong = [value for value in any_values() if value not in ([], ())]
    for value in any_values():
        wrong += [[value], (value,), [("x", ROWS), value], [value, ("x", ROWS)]]
        if value not in ([], ()):
            wrong += [[("x", value)], [("y", ROWS), ("x", value)]]
        if not isinstance(value, (Skip, Set)):
            wrong += [[("x", [value])], [("x", (ROWS[0], value))], [("x", [value, *ROWS])]]
    for name in wrong_names():
        wrong += [[(name, ROWS)], [("x", ROWS), (name, [])], [(name, ()), ("x", ROWS)]]
    for row in every_row():
        if row.word not in ("skip", "set"):
            wrong += [[("x", [row])], [("x", [*ROWS, row])], [("x", (row, *ROWS))], [("y", []), ("x", [row])]]
    return wrong + [
        [["x", ROWS]], [("x", ROWS), ["y", ROWS]], [("x", ROWS, ROWS)], [("x",)], [()], ("x", ROWS), [(ROWS, "x")],
        [("x", ROWS[0])], [("x", "skip f 7")], [("x", ["skip f 7"])], [("x", [ROWS])], [("x", {})], {"x": ROWS},
        [("x", [Skip])], [("x", Filling())], Filling([("x", ROWS)]), [Filling()], ROWS, ["x"], [("x", ROWS), "y"],
    ]


class Invalid(unittest.TestCase):
    def word(self, parts):
        with self.assertRaises(InvalidFilling, msg=repr(parts)) as caught:
            Filling(parts)
        return caught.exception.word

    def test_parts(self):
        for parts in wrong_parts():
            self.assertEqual(self.word(parts), "parts")

    def test_a_name_twice(self):
        for rows, more in itertools.product(([], (), ROWS, [Skip("c", 1)]), repeat=2):
            self.assertEqual(self.word([("x", rows), ("x", more)]), "name")
            self.assertEqual(self.word((("x", rows), ("y", ROWS), ("x", more))), "name")
            self.assertEqual(self.word([("y", ()), ("x", rows), ("x", more)]), "name")

    def test_parts_come_before_names(self):
        for wrong in (("z", None), ("z", [None]), ["z", ROWS], ("note", ROWS), None):
            for place in range(3):
                parts = [("x", ROWS), ("x", ROWS)]
                parts.insert(place, wrong)
                self.assertEqual(self.word(parts), "parts")


class Attributes(unittest.TestCase):
    def check(self, filling, rows):
        """Compare a filling with a dict of the rows of its names."""
        self.assertEqual(filling.names, tuple(sorted(rows)))
        self.assertIs(type(filling.names), tuple)
        for name in [*GOOD_NAMES, *rows]:
            self.assertIs(type(filling.rows_for(name)), tuple)
            self.assertEqual(filling.rows_for(name), tuple(rows.get(name, ())))

    def test_fillings(self):
        one, other = Skip("f", 7), Set("c", 0)
        for rows in (
            {}, {"x": [one]}, {"x": (one, other)}, {"x": [other, one], "y": [one]}, {"y": (one,), "x": [other]},
            {"z": [one] * 10, "aa": [other, other], "a": [one, other, one], "b": (other,)}, {"ab": [one], "b": [one]},
        ):
            self.check(Filling(list(rows.items())), rows)
            self.check(Filling(tuple(rows.items())), rows)
            self.check(Filling(list(rows.items())[::-1]), rows)

    def test_the_empty_filling(self):
        self.check(Filling(), {})
        self.assertEqual(Filling(), Filling([]))
        self.assertEqual(Filling(), Filling(()))

    def test_names_without_rows_are_left_out(self):
        for none in ([], ()):
            self.check(Filling([("x", none)]), {})
            self.check(Filling([("x", none), ("y", ROWS), ("z", none)]), {"y": ROWS})
            self.assertEqual(Filling([("x", none)]), Filling())
            self.assertEqual(str(Filling([("x", none)])), "-")

    def test_rows_stay_in_order(self):
        rows = [Set("f", 3), Skip("f", 10 ** 9), Set("f", 3), Skip("c", 1), Set("a", 10 ** 9)]
        self.assertEqual(Filling([("x", rows)]).rows_for("x"), tuple(rows))
        self.assertEqual([str(row) for row in Filling([("x", rows)]).rows_for("x")], [str(row) for row in rows])

    def test_rows_for_any_value(self):
        filling = Filling([("x", ROWS), ("f", ROWS[:1])])
        for value in any_values():
            wanted = {"x": tuple(ROWS), "f": (ROWS[0],)}.get(value, ()) if isinstance(value, str) else ()
            self.assertEqual(filling.rows_for(value), wanted)
            self.assertIs(type(filling.rows_for(value)), tuple)
            self.assertEqual(Filling().rows_for(value), ())
        for value in ([filling], ("x", tuple(ROWS)), [("x", ROWS)], ["x"], ("x",), "X", "x ", "skip f 7"):
            self.assertEqual(filling.rows_for(value), ())

    def test_text(self):
        for parts, text in (
            ([], "-"), ([("x", [Skip("f", 7)])], "x: skip f 7"), ([("x", ROWS)], "x: skip f 7, set c 0"),
            ([("y", ROWS), ("x", [Set("f", 1000000000)])], "x: set f 1000000000; y: skip f 7, set c 0"),
            ([("b", ROWS[1:]), ("a", []), ("aa", ROWS[:1])], "aa: skip f 7; b: set c 0"),
            ([("c", ROWS[:1]), ("b", ROWS[:1]), ("a", ROWS[:1])], "a: skip f 7; b: skip f 7; c: skip f 7"),
        ):
            self.assertEqual(str(Filling(parts)), text)

    def test_fillings_are_equal_if_their_texts_are(self):
        parts = [
            [], [("x", ROWS)], [("x", ROWS[::-1])], [("y", ROWS)], [("x", ROWS[:1])], [("x", ROWS), ("y", ROWS)],
            [("x", ROWS[:1]), ("y", ROWS[1:])], [("x", [Skip("f", 8)])], [("x", [Set("f", 7)])],
        ]
        fillings = [Filling(pairs) for pairs in parts]
        for (at, one), (number, other) in itertools.product(enumerate(fillings), enumerate(fillings)):
            self.assertIs(one == other, at == number)
            self.assertIs(one != other, at != number)
        self.assertEqual(Filling([("x", ROWS), ("y", ROWS)]), Filling((("y", tuple(ROWS)), ("x", ROWS), ("z", []))))

    def test_fillings_are_equal_to_nothing_else(self):
        filling = Filling([("x", ROWS)])
        for value in [str(filling), "-", [("x", ROWS)], (("x", tuple(ROWS)),), {"x": ROWS}, *no_strings()]:
            if not isinstance(value, Filling):
                for one in (filling, Filling()):
                    self.assertIs(one == value, False)
                    self.assertIs(value == one, False)
                    self.assertIs(one != value, True)


if __name__ == "__main__":
    unittest.main()
