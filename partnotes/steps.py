"""What rows do with the number and the box of one counter.

A step is a pair of terms, one for the number and one for the box afterwards. A
term is a pair of a word and a number k: ("now", k) is the number from before
plus k, ("box", k) the box from before plus k, ("at", k) is k.
"""

from partnotes.books import COUNTING_WORDS

TERM_WORDS = ("now", "box", "at")

SAME_NUMBER = ("now", 0)
SAME_BOX = ("box", 0)
STAY = (("now", 0), ("box", 0))


def going_on(row):
    """Return by what number a row lets its counter go on, 0 if it does not."""
    if row.word == "note":
        return 1
    if row.word == "skip":
        return row.by
    return 0


def own_step(row):
    """Return the step of the counter that a row has."""
    if row.word == "set":
        return ("at", row.to), SAME_BOX
    if row.word == "keep":
        return SAME_NUMBER, SAME_NUMBER
    if row.word == "back":
        return SAME_BOX, SAME_BOX
    return ("now", going_on(row)), SAME_BOX


def step_of(row, chain):
    """Return the step that a row makes for the last counter of a chain."""
    if row.word not in COUNTING_WORDS or row.counter not in chain:
        return STAY
    if row.counter == chain[-1]:
        return own_step(row)
    if going_on(row) > 0:
        return ("at", 0), SAME_BOX
    return STAY


def reckoned(term, number, kept):
    """Return what a term is, with the number and the box from before."""
    word, more = term
    if word == "now":
        return number + more
    if word == "box":
        return kept + more
    return more


def traced(term, earlier):
    """Return a term as one of what was there before an earlier step."""
    word, more = term
    if word == "at":
        return term
    now, box = earlier
    if word == "now":
        return now[0], now[1] + more
    return box[0], box[1] + more


def joined(first, second):
    """Return the step that does what one step does, and then what another one does."""
    return traced(second[0], first), traced(second[1], first)
