"""Mending: the widest leaves, and the places where a counter can start, so that no fault happens.

Leaves are compared as needs: tuples of numbers, one for each pair of a name and
a counter that a book has; 0 for no leave, 1 for "on", 2 for "any".
"""

from partnotes.checks import is_sequence
from partnotes.courses import NEEDS, choices, widely
from partnotes.deciding import need_fault, study_in_brief
from partnotes.errors import InvalidFault
from partnotes.leaves import Leaves
from partnotes.rows import Set
from partnotes.studies import study_of

WORDS = ("", "on", "any")


def need_faults(wanted):
    """Raise InvalidFault for anything but a sequence of faults."""
    if not is_sequence(wanted):
        raise InvalidFault()
    for fault in wanted:
        need_fault(fault)


def faulty_cases(study, counter, wanted):
    """Return the cases in which a wanted fault can be there at the notes of a counter."""
    field = study.fields[counter]
    mask = 0
    for fault in wanted:
        for way in study.ways(fault, counter):
            mask = mask | field.common(way)
    found = []
    for case in field.frame.cases:
        if mask % 2 == 1:
            found.append(case)
        mask = mask // 2
    return found


def needs_of(frame, case, known):
    """Return the needs of a case, for the known pairs."""
    levels = {}
    for name, course in zip(frame.opens, case):
        for counter, word in zip(frame.counters, course):
            levels[name, counter] = NEEDS[word]
    return tuple([levels.get(pair, 0) for pair in known])


def is_within(needs, other):
    """Tell whether leaves with other needs allow all that these needs ask for."""
    return all([one <= two for one, two in zip(needs, other)])


def least_of(several):
    """Return those needs within which there are no other ones."""
    found = []
    # The sums come first, so that no later needs lie within earlier ones.
    for total, needs in sorted(set([(sum(one), one) for one in several])):
        if not any([is_within(one, needs) for one in found]):
            found.append(needs)
    return found


def needs_of_faults(study, wanted, known):
    """Return the least needs with which a wanted fault happens."""
    found = []
    for counter, field in study.fields.items():
        found.extend([needs_of(field.frame, case, known) for case in faulty_cases(study, counter, wanted)])
    return least_of(found)


def raised(needs, at):
    """Return needs that ask for one word more at one place."""
    return (*needs[:at], needs[at] + 1, *needs[at + 1:])


def greatest_without(faulty, most):
    """Return the greatest needs, within the most ones, within which there are no faulty ones."""
    safe = {}
    for needs in choices([list(range(level + 1)) for level in most]):
        if not any([is_within(one, needs) for one in faulty]):
            safe[needs] = True
    found = []
    for needs in safe:
        if not any([raised(needs, at) in safe for at in range(len(needs))]):
            found.append(needs)
    return found


def widest(book, leaves, wanted):
    """Return the greatest leaves within given ones with which no wanted fault happens, by their texts."""
    need_faults(wanted)
    known = [(name, counter) for name in book.names for counter, upper in book.counters]
    most = [WORDS.index(leaves.word_of(name, counter)) for name, counter in known]
    faulty = needs_of_faults(study_of(book, [book.unrolled], leaves, widely), wanted, known)
    # What means nothing for the book does no harm, so the greatest leaves keep it.
    others = [triple for triple in leaves.pairs if triple[:2] not in known]
    found = []
    for needs in greatest_without(faulty, most):
        triples = [(name, counter, WORDS[level]) for (name, counter), level in zip(known, needs) if level > 0]
        found.append(Leaves([*others, *triples]))
    return tuple(sorted(found, key=str))


class Trial:
    """A book, a counter that could start anew in its text, and the faults that shall not happen then."""

    def __init__(self, book, study, counter, wanted):
        self.bound = book
        self.study = study
        self.counter = counter
        self.wanted = wanted

    def is_enough(self, places):
        """Tell whether no wanted fault happens if the counter starts ahead of the rows at these places."""
        book = self.bound
        # From the last one on, so that the earlier indexes stay right.
        for at in reversed(places):
            book = book.having(book.parts[-1].name, at, Set(self.counter, 0))
        study = self.study.with_book(book, self.counter)
        return not study.has_one(self.wanted, study.printing(self.counter))


def starts(book, leaves, counter, wanted):
    """Return the least sets of at most two rows of the text ahead of which a counter can start against faults."""
    book.chain(counter)
    need_faults(wanted)
    study = study_in_brief(book, leaves)
    touched = study.printing(counter)
    # Where the counter is not printed, no start of it helps.
    if study.has_one(wanted, [one for one in study.fields if one not in touched]):
        return ()
    trial = Trial(book, study, counter, wanted)
    if trial.is_enough(()):
        return ((),)
    places = list(range(len(book.parts[-1].rows)))
    ones = [(at,) for at in places if trial.is_enough((at,))]
    left = [at for at in places if (at,) not in ones]
    twos = [(one, two) for one in left for two in left if one < two and trial.is_enough((one, two))]
    return (*ones, *twos)
