"""Origins: which notes can print given numbers, and between what a note can print."""

from partnotes.checks import is_index, is_number
from partnotes.deciding import study_in_brief
from partnotes.errors import NoPlace
from partnotes.fields import NO_NOTE
from partnotes.studies import note_counters


def can_be_prints(value, size):
    """Tell whether any value is a tuple of so many numbers."""
    return isinstance(value, tuple) and len(value) == size and all([is_number(one) for one in value])


def example_printing(field, at, prints):
    """Return some filling with which a note of a field prints any value, or None."""
    if not can_be_prints(prints, len(field.forms)):
        return None
    return field.filling_by([(place, "same", NO_NOTE, at, number) for place, number in enumerate(prints)])


def field_of_note(book, leaves, at):
    """Return the field of the note with a number; NoPlace(at) if there is none."""
    notes = note_counters(book)
    if not is_index(at, len(notes)):
        raise NoPlace(at)
    return study_in_brief(book, leaves).fields[notes[at]]


def origins(book, leaves, counter, prints):
    """Return the ascending numbers of the notes of a counter that print any value with some allowed filling."""
    book.chain(counter)
    study = study_in_brief(book, leaves)
    numbers = study.numbers.get(counter, [])
    return tuple([at for at in numbers if example_printing(study.fields[counter], at, prints) is not None])


def telling(book, leaves, at, prints):
    """Return some allowed filling with which the note with a number prints any value, or None."""
    return example_printing(field_of_note(book, leaves, at), at, prints)


def ends(forms):
    """Return the least and the greatest number of some forms, None for a greatest one that there is not."""
    least = min([int(form[0]) for form in forms])
    if any([factor > 0 for form in forms for factor in form[1:]]):
        return least, None
    return least, max([int(form[0]) for form in forms])


def spread(book, leaves, at):
    """Return the pairs of the least and the greatest number that a note can print at each place."""
    field = field_of_note(book, leaves, at)
    return tuple([ends([forms[moves][at] for moves in forms]) for forms in field.forms])
