"""Fields: what can be of the notes in all cases of some counters.

A demand is a tuple (place, kind, early, late, more): at the place of a counter,
the form of the late note, less that of the early one, less a number, is 0
("same"), less than 0 ("less"), or not 0 ("apart"). A way is a list of demands
that hold together. As the places of different counters have different unknown
numbers, demands of a way at different places do not get into each other's way;
a way has at most one for each place.
"""

from partnotes.courses import MOVES, choices, courses
from partnotes.equations import difference
from partnotes.numbers import Filling
from partnotes.rows import Set, Skip
from partnotes.traces import forms_of

# Behind the forms of the notes there is the form 0.
NO_NOTE = -1


def masks_at(cases, place):
    """Return, by the moves of the counter at a place, the masks of the cases in which it makes them.

    A mask is an integer with one bit for each case, the first one last.
    """
    masks = {}
    bit = 1
    for case in cases:
        moves = tuple([MOVES[course[place]] for course in case])
        masks[moves] = masks.get(moves, 0) + bit
        bit = bit * 2
    return masks


def first_in(mask):
    """Return the number of the first case in a mask."""
    return (mask & -mask).bit_length() - 1


class Frame:
    """All cases of some counters at open places: a tuple with a course for each name."""

    def __init__(self, counters, opens, leaves, started):
        self.counters = [counter for counter, upper in counters]
        self.opens = opens
        self.cases = choices([courses(counters, name, leaves, started) for name in opens])
        self.masks = [masks_at(self.cases, place) for place in range(len(counters))]
        self.everything = sum(list(self.masks[0].values()))


def frame_over(book, chosen, leaves, started):
    """Return the frame of some counters of a book, with all those above them."""
    pairs = [pair for pair in book.counters if pair[0] in chosen]
    return Frame(pairs, book.names, leaves, started)


def frames_by_counter(book, leaves, started):
    """Return the frames of the chains of all counters."""
    counters = [counter for counter, upper in book.counters]
    return {counter: frame_over(book, book.chain(counter), leaves, started) for counter in counters}


def forms_at_last(texts, book, frame):
    """Return the forms of the last counter of a frame at the notes of texts, by its moves."""
    return forms_of(texts, book.chain(frame.counters[-1]), book.names, list(frame.masks[-1]))


def forms_by_counter(texts, book, frames):
    """Return the forms of all counters at the notes of texts, by the counters and by their moves."""
    return {counter: forms_at_last(texts, book, frames[counter]) for counter in frames}


def rows_with(counter, word, unknown):
    """Return the rows that do with a counter what a word says, with an unknown number."""
    if word == "on":
        return [Skip(counter, unknown + 1)]
    if word == "at":
        return [Set(counter, unknown)]
    if word == "both":
        return [Skip(counter, 1), Set(counter, unknown)]
    if word == "new" and unknown > 0:
        return [Skip(counter, unknown)]
    return []


class Field:
    """The cases of a frame, with the forms of all its counters by their moves."""

    def __init__(self, frame, forms, solver):
        self.frame = frame
        self.forms = forms
        self.solver = solver
        self.known = [{} for counter in forms]

    def with_forms(self, place, forms):
        """Return the field with other forms at a place."""
        other = Field(self.frame, [*self.forms[:place], forms, *self.forms[place + 1:]], self.solver)
        # What is known of the other places is shared: it stays right.
        other.known = [*self.known[:place], {}, *self.known[place + 1:]]
        return other

    def form_in(self, demand, moves):
        """Return the form that a demand is about, with moves of its counter."""
        place, kind, early, late, more = demand
        forms = self.forms[place][moves]
        return difference(forms[late], forms[early], more)

    def search(self, demand):
        """Return the mask of the cases in which a demand can hold."""
        mask = 0
        masks = self.frame.masks[demand[0]]
        for moves in masks:
            if self.solver.solve(demand[1], self.form_in(demand, moves)) is not None:
                mask = mask + masks[moves]
        return mask

    def mask_of(self, demand):
        """Return the mask of the cases in which a demand can hold; each demand is searched once."""
        known = self.known[demand[0]]
        if demand not in known:
            known[demand] = self.search(demand)
        return known[demand]

    def common(self, way):
        """Return the mask of the cases in which all demands of a way can hold."""
        mask = self.frame.everything
        for demand in way:
            if mask != 0:
                mask = mask & self.mask_of(demand)
        return mask

    def filling_in(self, number, unknowns):
        """Return the filling for the case with a number, with tuples of unknown numbers by places, else 0."""
        parts = []
        for at, name in enumerate(self.frame.opens):
            rows = []
            for place, counter in enumerate(self.frame.counters):
                word = self.frame.cases[number][at][place]
                rows.extend(rows_with(counter, word, unknowns[place][at] if place in unknowns else 0))
            parts.append((name, rows))
        return Filling(parts)

    def filling_by(self, way):
        """Return a filling with which all demands of a way hold, or None."""
        mask = self.common(way)
        if mask == 0:
            return None
        number = first_in(mask)
        unknowns = {}
        for demand in way:
            place = demand[0]
            moves = tuple([MOVES[course[place]] for course in self.frame.cases[number]])
            unknowns[place] = self.solver.solve(demand[1], self.form_in(demand, moves))
        return self.filling_in(number, unknowns)
