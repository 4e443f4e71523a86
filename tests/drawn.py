"""Small books and leaves by chance, and short fillings for them, to be tried one by one."""

import itertools

from partnotes.books import Book
from partnotes.leaves import Leaves
from partnotes.numbers import Filling, play
from partnotes.rows import Set, Skip
from tests import model
from tests.heads import ONE, SIDE, THREE, TWO

FAMILIES = (ONE, TWO, ["counter c", "counter f"], THREE, SIDE)
WORDS = ("", "on", "any")


def row(dice, counters, names, words):
    """A row of any kind."""
    word, counter = dice.choice(words), dice.choice(counters)
    if word == "note":
        return f"note {counter}" + dice.choice(["", " cat", " dog", ""])
    if word == "open":
        return f"open {dice.choice(names)}"
    if word in ("skip", "set"):
        return f"{word} {counter} {dice.randint(1, 4)}"
    if word == "ref":
        return "ref " + dice.choice(["cat", "dog"])
    return "put pic" if word == "put" else f"{word} {counter}"


def any_text(dice):
    """The text of a book with notes, open places, and a part that may be put."""
    words = ["note"] * 6 + ["open"] * 4 + ["skip", "set", "set", "keep", "keep", "back", "back", "ref"]
    while True:
        lines = list(dice.choice(FAMILIES))
        counters = [line.split()[1] for line in lines]
        names = dice.choice(["x", "xy"])
        lines += ["part pic", *[row(dice, counters, names, words) for step in range(dice.randint(1, 3))]]
        lines += ["part text"]
        lines += [row(dice, counters, names, [*words, "put", "put"]) for step in range(dice.randint(3, 9))]
        text = "\n".join(lines)
        if model.wrong_word(text) is None:
            return text


def any_leaves(dice, book, words=WORDS):
    """Leaves for the names and the counters of a book."""
    pairs = [(name, counter) for name in book.names for counter, upper in book.counters]
    chosen = [(*pair, dice.choice(words)) for pair in pairs]
    return Leaves([triple for triple in chosen if triple[2]])


def deeds(counter, word, most):
    """The rows that a part to come can have for one counter, with numbers up to most."""
    found = [[]]
    if word:
        found += [[Skip(counter, by)] for by in range(1, most + 1)]
    if word == "any":
        found += [[Set(counter, to)] for to in range(most + 1)]
        found += [[Skip(counter, 1), Set(counter, to)] for to in range(most + 1)]
    return found


def fillings(book, leaves, most=3):
    """All fillings that leaves allow with short parts, from the topmost counter to the lowest one."""
    options = []
    for name in book.names:
        each = [deeds(counter, leaves.word_of(name, counter), most) for counter, upper in book.counters]
        options.append([(name, sum(rows, [])) for rows in itertools.product(*each)])
    return [Filling(parts) for parts in itertools.product(*options)]


def how_many(book, leaves, most=3):
    """How many fillings these are."""
    many = 1
    for name in book.names:
        for counter, upper in book.counters:
            many *= len(deeds(counter, leaves.word_of(name, counter), most))
    return many


def words_of(filling):
    """A filling as a dict of lists of words."""
    return {name: [str(one).split() for one in filling.rows_for(name)] for name in filling.names}


def shown(book, filling):
    """All that a book prints with a filling."""
    played = play(book, filling)
    return played.notes, [prints for label, number, prints in played.refs]


def leaves_within(leaves, book):
    """All leaves less than or equal to given ones, over the names and counters of a book."""
    pairs = [(name, counter) for name in book.names for counter, upper in book.counters]
    others = [triple for triple in leaves.pairs if triple[:2] not in pairs]
    options = [WORDS[:WORDS.index(leaves.word_of(*pair)) + 1] for pair in pairs]
    for words in itertools.product(*options):
        yield Leaves([*others, *[(*pair, word) for pair, word in zip(pairs, words) if word]])


def some_books(dice, many, most):
    """Triples of a text, its book and leaves with at most so many short fillings."""
    found = []
    while len(found) < many:
        text = any_text(dice)
        book = Book.read(text)
        leaves = any_leaves(dice, book)
        if book.names and how_many(book, leaves) <= most:
            found.append((text, book, leaves))
    return found
