"""Texts of books, fillings and leaves by chance, but always the same ones."""

from partnotes.numbers import Filling
from partnotes.rows import read_row
from tests import model

COUNTERS = ("c", "f", "r")
NAMES = ("x", "y")
LABELS = ("cat", "dog")
FAMILIES = (
    ["counter c"], ["counter c", "counter f under c"], ["counter c", "counter f"],
    ["counter c", "counter f under c", "counter r under f"], ["counter c", "counter f under c", "counter r under c"],
    ["counter c", "counter f under c", "counter r"],
)


def counting_row(dice, counters):
    """A row with a counter."""
    counter = dice.choice(counters)
    word = dice.choice(["note"] * 6 + ["skip", "set", "keep", "back"])
    if word == "skip":
        return f"skip {counter} {dice.randint(1, 3)}"
    if word == "set":
        return f"set {counter} {dice.randint(0, 3)}"
    if word == "note" and dice.random() < 0.3:
        return f"note {counter} {dice.choice(LABELS)}"
    return f"{word} {counter}"


def row(dice, counters, earlier):
    """A row of any kind."""
    word = dice.choice(["count"] * 7 + ["open", "open", "put", "ref"])
    if word == "open":
        return f"open {dice.choice(NAMES)}"
    if word == "put" and earlier:
        return f"put {dice.choice(earlier)}"
    if word == "ref":
        return f"ref {dice.choice(LABELS)}"
    return counting_row(dice, counters)


def any_text(dice):
    """The text of a book."""
    while True:
        lines = list(dice.choice(FAMILIES))
        counters = [line.split()[1] for line in lines]
        earlier = []
        for name in ["pa", "pb", "pc", "pd"][:dice.randint(1, 4)]:
            lines += ["part " + name, *[row(dice, counters, earlier) for step in range(dice.randint(0, 6))]]
            earlier.append(name)
        text = "\n".join(lines)
        if model.wrong_word(text) is None:
            return text


def any_filling(dice, text, most=3):
    """A filling for a book, as a dict of lists of words."""
    counters = [words[0] for words in model.told(text)[0]]
    filling = {}
    for name in NAMES:
        rows = []
        for step in range(dice.randint(0, most)):
            word = dice.choice(["skip", "skip", "set"])
            rows.append([word, dice.choice(counters), str(dice.randint(1, 4))])
        filling[name] = rows
    return filling


def filling_of(told):
    """The filling that a dict of lists of words tells."""
    return Filling([(name, [read_row(" ".join(words)) for words in rows]) for name, rows in told.items()])
