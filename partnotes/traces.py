"""Traces: the forms of a counter's number at all notes of a text.

The unknown numbers of a form are those of the names of open places: for a
counter that goes on there, by how much more than 1; for one that is at any
number, this number.
"""

from partnotes.equations import only
from partnotes.steps import STAY, joined, step_of

NOTE = -1


def zero(many):
    """Return the form 0 with so many unknown numbers."""
    return (0,) * (many + 1)


def beats_of(rows, chain, names):
    """Return pairs of a step and of what stands behind it: a note, or an open place by the number of its name."""
    beats = []
    step = STAY
    for row in rows:
        step = joined(step, step_of(row, chain))
        if row.word == "note":
            beats.append((step, NOTE))
            step = STAY
        if row.word == "open":
            beats.append((step, names.index(row.name)))
            step = STAY
    return beats


def shifted(term, number, box):
    """Return the form that a term is, with the forms of the number and the box from before."""
    word, more = term
    if word == "at":
        return only(len(number), 0, more)
    form = number if word == "now" else box
    if more == 0:
        return form
    return (form[0] + more, *form[1:])


def passed(form, at, move):
    """Return what the form of a number is behind an open place of the name with a number."""
    if move == "still":
        return form
    if move == "on":
        return (form[0] + 1, *form[1:at + 1], form[at + 1] + 1, *form[at + 2:])
    if move == "at":
        return only(len(form), at + 1, 1)
    return only(len(form), 0, 0)


def forms_along(beats, moves):
    """Return the forms at all notes, with a move for each name."""
    number = zero(len(moves))
    box = number
    forms = []
    for (now, kept), at in beats:
        number, box = shifted(now, number, box), shifted(kept, number, box)
        if at == NOTE:
            forms.append(number)
        else:
            number = passed(number, at, moves[at])
    return forms


def forms_of(texts, chain, names, choices):
    """Return the lists of the forms of the last counter of a chain, by moves.

    A list has the forms at the notes of all texts, which are sequences of rows,
    and behind them the form 0.
    """
    beats = [beats_of(rows, chain, names) for rows in texts]
    forms = {}
    for moves in choices:
        found = []
        for some in beats:
            found.extend(forms_along(some, moves))
        forms[moves] = [*found, zero(len(names))]
    return forms
