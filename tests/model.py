"""What DOC.md says of texts, told again over plain strings, for comparison."""

import re

NAME = r"(?!(?:note|skip|set|keep|back|ref|put|open|part)(?![a-z]))[a-z]{1,4}"
ROW = re.compile(
    rf"note {NAME}(?: {NAME})?|(?:keep|back|ref|put|open) {NAME}"
    rf"|skip {NAME} [1-9][0-9]{{0,9}}|set {NAME} (?:0|[1-9][0-9]{{0,9}})"
)
COUNTER = re.compile(rf"counter {NAME}(?: under {NAME})?")
PART = re.compile(rf"part {NAME}")


def is_row(text):
    return ROW.fullmatch(text) is not None


def first_wrong_line(text):
    """The number of the first line that cannot stand there, or None."""
    in_parts = False
    for at, line in enumerate(text.split("\n")):
        if PART.fullmatch(line):
            in_parts = True
        elif in_parts and not is_row(line):
            return at
        elif not in_parts and not COUNTER.fullmatch(line):
            return at
    return None


def told(text):
    """The words of the counters, and the pairs of the names and rows (lists of words) of the parts."""
    counters, parts = [], []
    for words in [line.split() for line in text.split("\n")]:
        if words[0] == "counter":
            counters.append(words[1:])
        elif words[0] == "part":
            parts.append((words[1], []))
        else:
            parts[-1][1].append(words)
    return counters, parts


def unrolled(parts, name):
    """The rows of a part, with those of the parts that it puts."""
    rows = []
    for words in dict(parts)[name]:
        rows += unrolled(parts, words[1]) if words[0] == "put" else [words]
    return rows


def counters_are_wrong(counters):
    names = [words[0] for words in counters]
    above = [words[2] in names[:at] for at, words in enumerate(counters) if len(words) == 3]
    return len(set(names)) < len(names) or not all(above)


def wrong_word(text):
    """The word of InvalidBook for a text without wrong lines, or None."""
    counters, parts = told(text)
    if counters_are_wrong(counters):
        return "counters"
    names = [name for name, rows in parts]
    if not names or len(set(names)) < len(names):
        return "parts"
    known = [words[0] for words in counters]
    counting = ("note", "skip", "set", "keep", "back")
    if any(words[0] in counting and words[1] not in known for name, rows in parts for words in rows):
        return "counter"
    for at, (name, rows) in enumerate(parts):
        if any(words[0] == "put" and words[1] not in names[:at] for words in rows):
            return "part"
    flat = unrolled(parts, names[-1])
    labels = [words[2] for words in flat if words[0] == "note" and len(words) == 3]
    if any(words[0] == "ref" and words[1] not in labels for words in flat):
        return "ref"
    return None
