"""Papers: tuples of entries which show that no two notes print the same."""

from partnotes.checks import is_index, is_pair
from partnotes.courses import MOVES, briefly, choices, courses, plainly
from partnotes.equations import Solver, difference
from partnotes.fields import forms_by_counter, frames_by_counter
from partnotes.studies import note_counters, numbers_by_counter
from partnotes.ways import pairs_of


def cases(book, leaves):
    """Return the ascending tuple of all cases that are possible."""
    options = []
    for name in book.names:
        options.append([(name, course) for course in courses(book.counters, name, leaves, plainly)])
    return tuple(sorted(set(choices(options))))


class Proof:
    """What the notes of a book never print, by counters, their moves and pairs of notes."""

    def __init__(self, book, leaves):
        self.leave = leaves
        self.counters = [counter for counter, upper in book.counters]
        self.chains = {counter: book.chain(counter) for counter in self.counters}
        self.notes = note_counters(book)
        self.forms = forms_by_counter([book.unrolled], book, frames_by_counter(book, leaves, briefly))
        self.solver = Solver()
        self.known = {}

    def move(self, name, counter, word):
        """Return what a word of a case means for the number of a counter at the open places of a name."""
        if word == "new":
            return MOVES[briefly(self.leave.word_of(name, counter))[0]]
        return MOVES[word]

    def moves_in(self, case):
        """Return the moves of all counters in a case."""
        return {
            counter: tuple([self.move(name, counter, words[at]) for name, words in case])
            for at, counter in enumerate(self.counters)
        }

    def never(self, counter, moves, early, late):
        """Tell whether the number of a counter, with its moves, is never the same in two notes."""
        key = (counter, moves, early, late)
        if key not in self.known:
            forms = self.forms[counter][moves]
            form = difference(forms[late], forms[early], 0)
            self.known[key] = self.solver.solve("same", form) is None
        return self.known[key]

    def shows(self, moves, early, late, place):
        """Tell whether any values are two notes of one counter and a place where they are never the same."""
        if not is_index(late, len(self.notes)) or not is_index(early, late):
            return False
        chain = self.chains[self.notes[late]]
        if self.notes[early] != self.notes[late] or not is_index(place, len(chain)):
            return False
        return self.never(chain[place], moves[chain[place]], early, late)

    def place_for(self, moves, early, late):
        """Return the first place where two notes of one counter are never the same, or None."""
        for place in range(len(self.chains[self.notes[late]])):
            if self.shows(moves, early, late, place):
                return place
        return None


def told_pairs(proof, pairs, moves):
    """Return triples of the notes of each pair and a place where they are never the same, or None."""
    triples = []
    for early, late in pairs:
        place = proof.place_for(moves, early, late)
        if place is None:
            return None
        triples.append((early, late, place))
    return triples


def pairs_to_show(book):
    """Return all pairs of notes of one counter."""
    numbers = numbers_by_counter(book)
    return [pair for counter in numbers for pair in pairs_of(numbers[counter])]


def paper(book, leaves):
    """Return some right paper, or None if two notes can print the same."""
    proof = Proof(book, leaves)
    pairs = pairs_to_show(book)
    told = {}
    entries = []
    for case in cases(book, leaves):
        moves = proof.moves_in(case)
        # Very many cases mean the same for all numbers.
        key = tuple([moves[counter] for counter in proof.counters])
        if key not in told:
            told[key] = told_pairs(proof, pairs, moves)
        if told[key] is None:
            return None
        entries.extend([(early, late, case, place) for early, late, place in told[key]])
    return tuple(entries)


def is_words(value):
    """Tell whether any value is a pair of a name and a tuple of words, or at least of strings."""
    if not is_pair(value) or not isinstance(value[0], str) or not isinstance(value[1], tuple):
        return False
    return all([isinstance(word, str) for word in value[1]])


def is_entry(value):
    """Tell whether any value is a tuple of four things, with a tuple where the case stands."""
    return isinstance(value, tuple) and len(value) == 4 and isinstance(value[2], tuple)


def paper_holds(book, leaves, value):
    """Tell whether any value is a right paper."""
    if not isinstance(value, tuple) or not all([is_entry(entry) for entry in value]):
        return False
    proof = Proof(book, leaves)
    possible = cases(book, leaves)
    numbers = {case: number for number, case in enumerate(possible)}
    moves = [proof.moves_in(case) for case in possible]
    last = None
    shown = {}
    for early, late, case, place in value:
        # Most entries have the case of the one ahead of them, which need not be looked at again.
        if case != last and not (all([is_words(one) for one in case]) and case in numbers):
            return False
        last = case
        number = numbers[case]
        if not proof.shows(moves[number], early, late, place):
            return False
        shown[number, early, late] = True
    return len(shown) == len(possible) * len(pairs_to_show(book))
