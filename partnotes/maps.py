"""Maps: what rows do with the number and the box of one counter, whatever these are."""

from partnotes.checks import is_number, is_pair
from partnotes.errors import InvalidMap, Mismatch
from partnotes.steps import STAY, TERM_WORDS, joined, reckoned, step_of


def is_term(value):
    """Tell whether any value is a pair of a word and a number."""
    return is_pair(value) and value[0] in TERM_WORDS and is_number(value[1])


def term_text(term):
    """Return the text of a term."""
    word, more = term
    if word == "at":
        return f"at {more}"
    return f"{word}+{more}"


class Map:
    """What becomes of a number and its box."""

    def __init__(self, now=("now", 0), box=("box", 0)):
        if not is_term(now):
            raise InvalidMap("now")
        if not is_term(box):
            raise InvalidMap("box")
        self.now = now
        self.box = box

    def __call__(self, number, kept):
        return reckoned(self.now, number, kept), reckoned(self.box, number, kept)

    def __rshift__(self, other):
        if not isinstance(other, Map):
            raise TypeError("behind a map there can only be a map")
        now, box = joined((self.now, self.box), (other.now, other.box))
        return Map(now, box)

    def times(self, n):
        """Return the map that does n times what this one does."""
        result = Map()
        power = self
        left = n
        # By the binary digits of n, as it may be far too large to count up to it.
        while left > 0:
            if left % 2 == 1:
                result = result >> power
            power = power >> power
            left = left // 2
        return result

    def __str__(self):
        return f"{term_text(self.now)} {term_text(self.box)}"

    def __eq__(self, other):
        return isinstance(other, Map) and self.now == other.now and self.box == other.box


def step_along(part, chain, steps):
    """Return the step of a part, where steps has those of the parts that it puts; None with an open place."""
    whole = STAY
    for row in part.rows:
        step = step_of(row, chain)
        if row.word == "put":
            step = steps[row.part]
        if row.word == "open" or step is None:
            return None
        whole = joined(whole, step)
    return whole


def map_of(book, name, counter):
    """Return the map of a part, with all parts that it puts, for a counter."""
    number = book.number_of(name)
    chain = book.chain(counter)
    # One step for each part: its rows may be very many if parts put parts.
    steps = {}
    for part in book.parts[:number + 1]:
        steps[part.name] = step_along(part, chain, steps)
    if steps[name] is None:
        raise Mismatch()
    now, box = steps[name]
    return Map(now, box)
