"""Parts, and books of parts with their counters."""

from partnotes.checks import is_index, is_name, is_pair, is_sequence
from partnotes.errors import InvalidBook, InvalidPart, InvalidText, NoName, NoPlace
from partnotes.rows import Row, read_row

COUNTING_WORDS = ("note", "skip", "set", "keep", "back")


class Part:
    """A name, and rows."""

    def __init__(self, name, rows=()):
        if not is_name(name):
            raise InvalidPart("name")
        if not is_sequence(rows) or not all([isinstance(row, Row) for row in rows]):
            raise InvalidPart("rows")
        self.name = name
        self.rows = tuple(rows)

    def __str__(self):
        lines = [str(row) for row in self.rows]
        return "\n".join([f"part {self.name}", *lines])

    def __eq__(self, other):
        return isinstance(other, Part) and str(self) == str(other)


def are_counters(counters):
    """Tell whether any value is a sequence of counters, each with its upper one ahead of it."""
    if not is_sequence(counters):
        return False
    earlier = []
    for pair in counters:
        if not is_pair(pair) or not is_name(pair[0]) or pair[0] in earlier:
            return False
        if pair[1] != "" and pair[1] not in earlier:
            return False
        earlier.append(pair[0])
    return True


def are_parts(parts):
    """Tell whether any value is a sequence of parts, at least one, with different names."""
    if not is_sequence(parts) or not all([isinstance(part, Part) for part in parts]):
        return False
    return 0 < len(parts) == len(set([part.name for part in parts]))


def counters_are_known(counters, parts):
    """Tell whether the rows of all parts have only these counters."""
    names = [name for name, upper in counters]
    rows = [row for part in parts for row in part.rows if row.word in COUNTING_WORDS]
    return all([row.counter in names for row in rows])


def names_put(part):
    """Return the names of the parts that a part puts itself, in order."""
    return [row.part for row in part.rows if row.word == "put"]


def puts_are_earlier(parts):
    """Tell whether each part puts only parts that stand ahead of it."""
    earlier = []
    for part in parts:
        if not all([name in earlier for name in names_put(part)]):
            return False
        earlier.append(part.name)
    return True


def names_reached(parts):
    """Return the names of the text and of all parts that are put into it, also by other parts."""
    names = [parts[-1].name]
    for part in reversed(parts):
        if part.name in names:
            names.extend(names_put(part))
    return names


def unroll(part, flat):
    """Return the rows of a part, where flat has the unrolled rows of the parts that it puts."""
    rows = []
    for row in part.rows:
        if row.word == "put":
            rows.extend(flat[row.part])
        else:
            rows.append(row)
    return rows


def unrolled_text(parts):
    """Return the rows of the last part, with the rows of parts in place of put rows."""
    # Each part is unrolled once, and only if the text reaches it: other parts may
    # be far longer than the text, and a part without rows may be put in very often.
    names = names_reached(parts)
    flat = {}
    for part in parts:
        if part.name in names:
            flat[part.name] = unroll(part, flat)
    return tuple(flat[parts[-1].name])


def refs_are_known(rows):
    """Tell whether each reference has the label of a note in these rows."""
    labels = [row.label for row in rows if row.word == "note"]
    return all([row.label in labels for row in rows if row.word == "ref"])


def counter_line(name, upper):
    """Return the line of a book for a counter."""
    if upper == "":
        return f"counter {name}"
    return f"counter {name} under {upper}"


def read_counter(line):
    """Return the pair of the counter that a line tells, or None for any other line."""
    words = line.split(" ")
    if words[0] != "counter" or not all([is_name(word) for word in words[1::2]]):
        return None
    if len(words) == 2:
        return words[1], ""
    if len(words) == 4 and words[2] == "under":
        return words[1], words[3]
    return None


def read_counters(lines):
    """Return the pairs of the counters that stand ahead of all other lines."""
    counters = []
    for line in lines:
        pair = read_counter(line)
        if pair is None:
            return counters
        counters.append(pair)
    return counters


def is_part_line(line):
    """Tell whether a line begins a part."""
    words = line.split(" ")
    return len(words) == 2 and words[0] == "part" and is_name(words[1])


def read_line(line, at):
    """Return the row with a text; InvalidText(at) if there is none."""
    try:
        return read_row(line)
    except InvalidText:
        raise InvalidText(at) from None


def read_parts(lines, start):
    """Return the parts that the lines from a number on tell."""
    drafts = []
    for at, line in enumerate(lines[start:], start):
        if is_part_line(line):
            drafts.append((line.split(" ")[1], []))
        elif len(drafts) == 0:
            raise InvalidText(at)
        else:
            drafts[-1][1].append(read_line(line, at))
    return [Part(name, rows) for name, rows in drafts]


class Book:
    """Counters, and parts, the last of which is the text."""

    def __init__(self, counters, parts):
        if not are_counters(counters):
            raise InvalidBook("counters")
        if not are_parts(parts):
            raise InvalidBook("parts")
        if not counters_are_known(counters, parts):
            raise InvalidBook("counter")
        if not puts_are_earlier(parts):
            raise InvalidBook("part")
        flat = unrolled_text(parts)
        if not refs_are_known(flat):
            raise InvalidBook("ref")
        self.counters = tuple(counters)
        self.parts = tuple(parts)
        self.flat = flat

    @classmethod
    def read(cls, text):
        """Return the book with a text; InvalidText(at) for the first line that cannot stand there."""
        lines = text.split("\n")
        counters = read_counters(lines)
        return cls(counters, read_parts(lines, len(counters)))

    @property
    def names(self):
        """The ascending names of the open places in the unrolled text."""
        return tuple(sorted(set([row.name for row in self.flat if row.word == "open"])))

    @property
    def tops(self):
        """The names of the counters that stand under none."""
        return tuple([name for name, upper in self.counters if upper == ""])

    @property
    def unrolled(self):
        """The rows of the text, with the rows of parts in place of put rows."""
        return self.flat

    def number_of(self, name):
        """Return the number of the part with a name."""
        for number, part in enumerate(self.parts):
            if part.name == name:
                return number
        raise NoName(name)

    def part_of(self, name):
        """Return the part with a name."""
        return self.parts[self.number_of(name)]

    def chain(self, name):
        """Return the names of the counters above a counter, the topmost first, and its own."""
        uppers = dict(self.counters)
        if not is_name(name) or name not in uppers:
            raise NoName(name)
        above = [name]
        while uppers[above[-1]] != "":
            above.append(uppers[above[-1]])
        return tuple(above[::-1])

    def with_rows(self, number, rows):
        """Return the book with other rows in the part with a number."""
        parts = list(self.parts)
        parts[number] = Part(parts[number].name, rows)
        return Book(self.counters, parts)

    def without(self, name, at):
        """Return the book without a row of the part with a name."""
        number = self.number_of(name)
        rows = self.parts[number].rows
        if not is_index(at, len(rows)):
            raise NoPlace(at)
        return self.with_rows(number, rows[:at] + rows[at + 1:])

    def having(self, name, at, row):
        """Return the book with a row put ahead of a row of the part with a name, or at its end."""
        number = self.number_of(name)
        rows = self.parts[number].rows
        if not is_index(at, len(rows) + 1):
            raise NoPlace(at)
        return self.with_rows(number, [*rows[:at], row, *rows[at:]])

    def __len__(self):
        return len(self.parts)

    def __str__(self):
        counters = [counter_line(name, upper) for name, upper in self.counters]
        parts = [str(part) for part in self.parts]
        return "\n".join([*counters, *parts])

    def __eq__(self, other):
        return isinstance(other, Book) and str(self) == str(other)
