"""Leaves: what parts to come may do with the counters."""

from partnotes.checks import is_name, is_sequence
from partnotes.errors import InvalidLeaves

LEAVE_WORDS = ("on", "any")


def is_triple(value):
    """Tell whether any value is a tuple of a name, a counter and a word."""
    if not isinstance(value, tuple) or len(value) != 3:
        return False
    return is_name(value[0]) and is_name(value[1]) and value[2] in LEAVE_WORDS


def need_triples(items):
    """Raise InvalidLeaves with the index of the first thing that is no triple, 0 if this is no sequence."""
    if not is_sequence(items):
        raise InvalidLeaves(0)
    for at, triple in enumerate(items):
        if not is_triple(triple):
            raise InvalidLeaves(at)


def rights_of(triples):
    """Return the ascending triples with all that is allowed: what may be set may go on, too."""
    going = [(name, counter, "on") for name, counter, word in triples]
    return tuple(sorted(set([*triples, *going])))


def need_leaves(value):
    """Raise TypeError for anything but leaves."""
    if not isinstance(value, Leaves):
        raise TypeError("beside leaves there can only be leaves")


class Leaves:
    """Which counters may go on, or be set, too, at which open places."""

    def __init__(self, items=()):
        need_triples(items)
        self.rights = rights_of(items)

    @property
    def pairs(self):
        """The ascending triples, each name and counter with the word that allows most."""
        free = [(name, counter) for name, counter, word in self.rights if word == "any"]
        return tuple([one for one in self.rights if one[2] == "any" or one[:2] not in free])

    def word_of(self, name, counter):
        """Return the word for a name and a counter, "" if nothing is allowed."""
        if (name, counter, "any") in self.rights:
            return "any"
        if (name, counter, "on") in self.rights:
            return "on"
        return ""

    def lets(self, name, row):
        """Tell whether a row may stand at the open places of a name."""
        word = "any" if row.word == "set" else "on"
        return (name, row.counter, word) in self.rights

    def allow(self, book, filling):
        """Tell whether a filling has only names and counters of a book, and only rows that are allowed."""
        names = book.names
        counters = [counter for counter, upper in book.counters]
        pairs = [(name, row) for name in filling.names for row in filling.rows_for(name)]
        known = all([name in names and row.counter in counters for name, row in pairs])
        return known and all([self.lets(name, row) for name, row in pairs])

    def __or__(self, other):
        need_leaves(other)
        return Leaves([*self.rights, *other.rights])

    def __and__(self, other):
        need_leaves(other)
        return Leaves([one for one in self.rights if one in other.rights])

    def __le__(self, other):
        need_leaves(other)
        return all([one in other.rights for one in self.rights])

    def __ge__(self, other):
        need_leaves(other)
        return all([one in self.rights for one in other.rights])

    def __len__(self):
        return len(self.pairs)

    def __str__(self):
        if len(self.rights) == 0:
            return "-"
        return "; ".join([" ".join(one) for one in self.pairs])

    def __eq__(self, other):
        return isinstance(other, Leaves) and self.rights == other.rights
