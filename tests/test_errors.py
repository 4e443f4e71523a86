"""Point 4: the errors."""

import unittest

from partnotes import errors
from partnotes.errors import (
    InvalidBook, InvalidCommand, InvalidFault, InvalidFilling, InvalidLeaves, InvalidMap, InvalidPart,
    InvalidRow, InvalidText, Mismatch, NoName, NoPlace, NoteError, Refused,
)
from tests.samples import any_values

WITH_ARGUMENT = [
    (InvalidRow, "word", NoteError), (InvalidPart, "word", NoteError), (InvalidBook, "word", NoteError),
    (InvalidText, "at", NoteError), (InvalidFilling, "word", NoteError), (InvalidLeaves, "at", NoteError),
    (InvalidMap, "word", NoteError), (Refused, "at", NoteError), (NoName, "name", KeyError),
    (NoPlace, "at", IndexError),
]
WITHOUT_ARGUMENT = [InvalidFault, InvalidCommand, Mismatch]
ALL = [one for one, name, base in WITH_ARGUMENT] + WITHOUT_ARGUMENT


class Bases(unittest.TestCase):
    def test_the_base_class_is_a_value_error(self):
        self.assertEqual(NoteError.__bases__, (ValueError,))

    def test_direct_bases(self):
        for error, name, base in WITH_ARGUMENT:
            self.assertEqual(error.__bases__, (base,), error)
        for error in WITHOUT_ARGUMENT:
            self.assertEqual(error.__bases__, (NoteError,), error)

    def test_none_is_derived_from_another_one(self):
        for error in ALL:
            for other in ALL:
                self.assertEqual(issubclass(error, other), error == other, (error, other))

    def test_these_are_all(self):
        defined = [value for value in vars(errors).values() if isinstance(value, type)]
        self.assertCountEqual(defined, [*ALL, NoteError])

    def test_those_of_python_are_no_note_errors(self):
        for error in (NoName, NoPlace):
            self.assertFalse(issubclass(error, NoteError))
            self.assertFalse(issubclass(error, ValueError))


class Arguments(unittest.TestCase):
    def test_the_attribute_is_the_very_argument(self):
        for error, name, base in WITH_ARGUMENT:
            for value in [*any_values(), object(), 10 ** 5000, {}, {"f"}, len]:
                self.assertIs(getattr(error(value), name), value)
                self.assertIs(getattr(error(**{name: value}), name), value)

    def test_a_list_that_is_changed_afterwards(self):
        for error, name, base in WITH_ARGUMENT:
            value = ["f"]
            raised = error(value)
            value.append("g")
            self.assertIs(getattr(raised, name), value)
            self.assertEqual(getattr(raised, name), ["f", "g"])

    def test_they_can_be_raised_and_caught_by_their_bases(self):
        for error, name, base in WITH_ARGUMENT:
            with self.assertRaises(base) as caught:
                raise error("f")
            self.assertEqual(getattr(caught.exception, name), "f")
        for error in WITHOUT_ARGUMENT:
            with self.assertRaises(NoteError):
                raise error()

    def test_the_number_of_arguments(self):
        for error, name, base in WITH_ARGUMENT:
            self.assertRaises(TypeError, error)
            self.assertRaises(TypeError, error, "f", "g")


if __name__ == "__main__":
    unittest.main()
