"""Comparing: whether two books print the same with all parts to come that leaves allow."""

from partnotes.courses import briefly
from partnotes.equations import Solver, apart
from partnotes.errors import Mismatch
from partnotes.fields import Field, first_in, forms_by_counter, frame_over, frames_by_counter
from partnotes.numbers import Filling, links
from partnotes.studies import note_counters, study_of

WORDS_WITHOUT_PRINTS = ("skip", "set", "keep", "back", "open")


def need_match(p, q):
    """Raise Mismatch if two books do not have equal counters and names of open places."""
    if p.counters != q.counters or p.names != q.names:
        raise Mismatch()


def note_parting(p, q, leaves):
    """Return a filling with which a note does not print what the same note of another book prints, or None."""
    study = study_of(p, [p.unrolled, q.unrolled], leaves, briefly)
    many = len(note_counters(p))
    for counter, field in study.fields.items():
        for at in study.numbers[counter]:
            for place in range(len(field.forms)):
                found = field.filling_by([(place, "apart", at, many + at, 0)])
                if found is not None:
                    return found
    return None


def numbers_parting(field, left, one, right, other):
    """Return a filling that parts the number at the left place in one note and that at the right one in another."""
    if left == right:
        return field.filling_by([(left, "apart", one, other, 0)])
    for ours, our_mask in field.frame.masks[left].items():
        for theirs, their_mask in field.frame.masks[right].items():
            form = field.forms[left][ours][one]
            less = field.forms[right][theirs][other]
            # Different counters have different unknown numbers.
            unknowns = apart((form[0] - less[0], *form[1:], *[-factor for factor in less[1:]]))
            if our_mask & their_mask != 0 and unknowns is not None:
                many = len(ours)
                number = first_in(our_mask & their_mask)
                return field.filling_in(number, {left: unknowns[:many], right: unknowns[many:]})
    return None


def print_parting(book, leaves, forms, one, other):
    """Return a filling with which two notes of a book do not print the same, or None."""
    notes = note_counters(book)
    ours = book.chain(notes[one])
    theirs = book.chain(notes[other])
    if len(ours) != len(theirs):
        return Filling()
    frame = frame_over(book, [*ours, *theirs], leaves, briefly)
    field = Field(frame, [forms[counter] for counter in frame.counters], Solver())
    for left, right in zip(ours, theirs):
        found = numbers_parting(field, frame.counters.index(left), one, frame.counters.index(right), other)
        if found is not None:
            return found
    return None


def ref_parting(p, q, leaves):
    """Return a filling with which a reference does not print what the same one of another book prints, or None.

    The notes of the books print the same.
    """
    pairs = [(ours[1], theirs[1]) for ours, theirs in zip(links(p), links(q))]
    forms = forms_by_counter([p.unrolled], p, frames_by_counter(p, leaves, briefly))
    for one, other in sorted(set(pairs)):
        found = print_parting(p, leaves, forms, one, other) if one != other else None
        if found is not None:
            return found
    return None


def parting(p, q, leaves):
    """Return some allowed filling with which two books do not print the same, or None."""
    need_match(p, q)
    if note_counters(p) != note_counters(q) or len(links(p)) != len(links(q)):
        return Filling()
    found = note_parting(p, q, leaves)
    if found is None:
        return ref_parting(p, q, leaves)
    return found


def alike(p, q, leaves):
    """Tell whether two books print the same with all allowed fillings."""
    return parting(p, q, leaves) is None


def is_needless(book, leaves, at):
    """Tell whether a book without a row of its text has the same open places and prints the same."""
    other = book.without(book.parts[-1].name, at)
    return other.names == book.names and alike(book, other, leaves)


def needless(book, leaves):
    """Return the ascending indexes of the rows of the text that make no difference, each alone."""
    rows = book.parts[-1].rows
    quiet = [at for at, row in enumerate(rows) if row.word in WORDS_WITHOUT_PRINTS]
    return tuple([at for at in quiet if is_needless(book, leaves, at)])
