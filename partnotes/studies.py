"""Studies: the notes of a book, and what can be of them."""

from partnotes.equations import Solver
from partnotes.fields import Field, forms_at_last, forms_by_counter, frames_by_counter
from partnotes.numbers import links
from partnotes.ways import ways_of


def note_counters(book):
    """Return the counters of the notes, in order."""
    return [row.counter for row in book.unrolled if row.word == "note"]


def numbers_by_counter(book):
    """Return the numbers of the notes, by their counters."""
    numbers = {}
    for number, counter in enumerate(note_counters(book)):
        numbers.setdefault(counter, []).append(number)
    return numbers


class Study:
    """The frames of all counters, and the numbers and the field of the notes of each counter that has notes.

    linked has the numbers of the notes that references print.
    """

    def __init__(self, frames, numbers, linked, fields):
        self.frames = frames
        self.numbers = numbers
        self.linked = linked
        self.fields = fields

    def ways(self, fault, counter):
        """Return the ways in which a fault comes about at the notes of a counter."""
        return ways_of(fault, self.fields[counter], self.numbers[counter], self.linked)

    def example(self, fault, counters):
        """Return a filling with which a fault is there at the notes of some counters, or None."""
        for counter in counters:
            for way in self.ways(fault, counter):
                found = self.fields[counter].filling_by(way)
                if found is not None:
                    return found
        return None

    def has_one(self, wanted, counters):
        """Tell whether one of the wanted faults can be there at the notes of some counters."""
        for fault in wanted:
            if self.example(fault, counters) is not None:
                return True
        return False

    def printing(self, counter):
        """Return the counters whose notes print the number of a counter."""
        return [one for one in self.fields if counter in self.fields[one].frame.counters]

    def with_book(self, book, counter):
        """Return the study of a book that differs only in what its rows do with one counter."""
        forms = forms_at_last([book.unrolled], book, self.frames[counter])
        fields = {one: self.fields[one] for one in self.fields}
        for one in self.printing(counter):
            place = fields[one].frame.counters.index(counter)
            fields[one] = fields[one].with_forms(place, forms)
        return Study(self.frames, self.numbers, self.linked, fields)


def study_of(book, texts, leaves, started):
    """Return the study of a book, where the fields have the notes of texts, which are sequences of rows."""
    frames = frames_by_counter(book, leaves, started)
    forms = forms_by_counter(texts, book, frames)
    numbers = numbers_by_counter(book)
    solver = Solver()
    fields = {}
    for counter in numbers:
        fields[counter] = Field(frames[counter], [forms[one] for one in book.chain(counter)], solver)
    return Study(frames, numbers, [number for label, number in links(book)], fields)
