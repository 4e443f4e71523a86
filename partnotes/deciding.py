"""Deciding: which faults can come about with the parts to come that leaves allow."""

from partnotes.courses import briefly
from partnotes.errors import InvalidFault
from partnotes.numbers import FAULTS
from partnotes.studies import study_of
from partnotes.ways import pairs_of, twin_way


def need_fault(fault):
    """Raise InvalidFault for any value that is no fault."""
    if fault not in FAULTS:
        raise InvalidFault()


def study_in_brief(book, leaves):
    """Return the study of a book with all numbers that can be."""
    return study_of(book, [book.unrolled], leaves, briefly)


def example(book, leaves, fault):
    """Return some allowed filling with which a fault is there, or None."""
    need_fault(fault)
    study = study_in_brief(book, leaves)
    return study.example(fault, list(study.fields))


def happens(book, leaves, fault):
    """Tell whether there is an allowed filling with which a fault is there."""
    return example(book, leaves, fault) is not None


def faults(book, leaves):
    """Return the ascending faults that happen."""
    study = study_in_brief(book, leaves)
    return tuple([fault for fault in FAULTS if study.example(fault, list(study.fields)) is not None])


def twins(book, leaves):
    """Return the ascending pairs of notes of one counter that print the same with some allowed filling."""
    study = study_in_brief(book, leaves)
    found = []
    for counter, field in study.fields.items():
        for early, late in pairs_of(study.numbers[counter]):
            if field.common(twin_way(len(field.forms), early, late)) != 0:
                found.append((early, late))
    return tuple(sorted(set(found)))
