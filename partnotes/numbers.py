"""Fillings of open places, and the numbers of the notes with them."""

from partnotes.checks import is_name, is_pair, is_sequence
from partnotes.errors import InvalidFilling
from partnotes.rows import Set, Skip
from partnotes.steps import reckoned, step_of

FAULTS = ("astray", "fall", "gap", "moved", "twin")

AT_FIRST = (0, 0)


def are_fillable(rows):
    """Tell whether any value is a sequence of rows that may stand at an open place."""
    return is_sequence(rows) and all([isinstance(row, (Skip, Set)) for row in rows])


def is_filled(value):
    """Tell whether any value is a pair of a name and the rows for it."""
    return is_pair(value) and is_name(value[0]) and are_fillable(value[1])


def filled_text(name, rows):
    """Return the text of the rows for a name."""
    texts = ", ".join([str(row) for row in rows])
    return f"{name}: {texts}"


class Filling:
    """What stands at the open places."""

    def __init__(self, parts=()):
        if not is_sequence(parts) or not all([is_filled(pair) for pair in parts]):
            raise InvalidFilling("parts")
        if len(set([name for name, rows in parts])) < len(parts):
            raise InvalidFilling("name")
        names = sorted(set([name for name, rows in parts if len(rows) > 0]))
        given = dict(parts)
        self.filled = tuple([(name, tuple(given[name])) for name in names])

    @property
    def names(self):
        """The ascending names that have rows."""
        return tuple([name for name, rows in self.filled])

    def rows_for(self, name):
        """Return the rows for a name, none for any other value."""
        for one, rows in self.filled:
            if one == name:
                return rows
        return ()

    def __str__(self):
        if len(self.filled) == 0:
            return "-"
        return "; ".join([filled_text(name, rows) for name, rows in self.filled])

    def __eq__(self, other):
        return isinstance(other, Filling) and str(self) == str(other)


class Played:
    """What the notes and the references print, and what the counters are in the end."""

    def __init__(self, notes, refs, ends):
        self.notes = notes
        self.refs = refs
        self.ends = ends

    def __eq__(self, other):
        if not isinstance(other, Played):
            return False
        return self.notes == other.notes and self.refs == other.refs and self.ends == other.ends


def need_counters(book, filling):
    """Raise InvalidFilling("counter") if a row for a name of the book has a counter that it does not have."""
    counters = [name for name, upper in book.counters]
    rows = [row for name in book.names for row in filling.rows_for(name)]
    if not all([row.counter in counters for row in rows]):
        raise InvalidFilling("counter")


def filled_rows(book, filling):
    """Return the rows of the unrolled text, with those of the filling at the open places."""
    rows = []
    for row in book.unrolled:
        if row.word == "open":
            rows.extend(filling.rows_for(row.name))
        else:
            rows.append(row)
    return rows


def done(row, chains, state):
    """Return the pairs of the numbers and the boxes, by counters, after a row."""
    after = {}
    for chain in chains:
        number, kept = state[chain[-1]]
        now, box = step_of(row, chain)
        after[chain[-1]] = (reckoned(now, number, kept), reckoned(box, number, kept))
    return after


def note_told(label, ahead, notes):
    """Return the number of the note that a reference prints, behind the first so many of all notes."""
    numbers = [number for number, note in enumerate(notes) if note.label == label]
    earlier = [number for number in numbers if number < ahead]
    if len(earlier) > 0:
        return earlier[-1]
    return numbers[0]


def links(book):
    """Return the pairs of the label and the number of the note of each reference, in order."""
    notes = [row for row in book.unrolled if row.word == "note"]
    pairs = []
    ahead = 0
    for row in book.unrolled:
        if row.word == "note":
            ahead += 1
        if row.word == "ref":
            pairs.append((row.label, note_told(row.label, ahead, notes)))
    return pairs


def play(book, filling):
    """Number the notes of a book with a filling."""
    need_counters(book, filling)
    chains = [book.chain(name) for name, upper in book.counters]
    state = {chain[-1]: AT_FIRST for chain in chains}
    notes = []
    for row in filled_rows(book, filling):
        state = done(row, chains, state)
        if row.word == "note":
            prints = tuple([state[name][0] for name in book.chain(row.counter)])
            notes.append((row.counter, prints))
    refs = [(label, number, notes[number][1]) for label, number in links(book)]
    ends = [state[chain[-1]] for chain in chains]
    return Played(tuple(notes), tuple(refs), tuple(ends))


def series(played):
    """Return the lists of what the notes print, by their counters."""
    told = {}
    for counter, prints in played.notes:
        told.setdefault(counter, []).append(prints)
    return told


def follows(prints, earlier):
    """Tell whether what a note prints follows what the one ahead of it prints."""
    if prints[:-1] == earlier[:-1]:
        return prints[-1] == earlier[-1] + 1
    return prints[-1] == 1


def has_twin(one):
    """Tell whether two notes of one counter print the same."""
    return len(set(one)) < len(one)


def has_fall(one):
    """Tell whether a note prints less than an earlier one of its counter."""
    # If none prints less than the one ahead of it, none prints less than any earlier one.
    return any([later < earlier for earlier, later in zip(one, one[1:])])


def has_gap(one):
    """Tell whether a note does not follow the one ahead of it of its counter, or the first one is not 1."""
    return one[0][-1] != 1 or not all([follows(later, earlier) for earlier, later in zip(one, one[1:])])


def is_astray(played, told):
    """Tell whether a reference prints what two notes of its note's counter print."""
    for label, number, prints in played.refs:
        counter = played.notes[number][0]
        if told[counter].count(prints) > 1:
            return True
    return False


def faults_at(book, filling):
    """Return the ascending faults of the notes of a book with a filling."""
    played = play(book, filling)
    told = series(played)
    lists = list(told.values())
    found = {
        "astray": is_astray(played, told),
        "fall": any([has_fall(one) for one in lists]),
        "gap": any([has_gap(one) for one in lists]),
        "moved": played.notes != play(book, Filling()).notes,
        "twin": any([has_twin(one) for one in lists]),
    }
    return tuple([fault for fault in FAULTS if found[fault]])
