"""What DOC.md says of numbers, maps and leaves, told again over words and dicts, for comparison.

A filling is a dict of lists of rows, a row a list of words; leaves are a dict of words by pairs of names.
"""

from tests import model


def start_anew(counters, numbers, name):
    """Set the counters under a counter, and under these, to 0."""
    for words in counters:
        if words[1:] == ["under", name]:
            numbers[words[0]] = 0
            start_anew(counters, numbers, words[0])


def do(counters, numbers, boxes, words):
    """Do one row that is no reference."""
    if words[0] in ("note", "skip"):
        numbers[words[1]] += int(words[2]) if words[0] == "skip" else 1
        start_anew(counters, numbers, words[1])
    elif words[0] == "set":
        numbers[words[1]] = int(words[2])
    elif words[0] == "keep":
        boxes[words[1]] = numbers[words[1]]
    elif words[0] == "back":
        numbers[words[1]] = boxes[words[1]]


def prints(counters, numbers, name):
    """What a note of a counter prints."""
    uppers = {words[0]: words[2] for words in counters if len(words) == 3}
    told = [numbers[name]]
    while name in uppers:
        name = uppers[name]
        told.insert(0, numbers[name])
    return tuple(told)


def references(rows):
    """The pairs of the label and the number of the note of each reference."""
    notes = [(at, words[2:]) for at, words in enumerate(rows) if words[0] == "note"]
    told = []
    for at, words in enumerate(rows):
        if words[0] == "ref":
            places = [place for place, label in notes if label == words[1:]]
            ahead = [place for place in places if place < at]
            place = max(ahead) if ahead else min(places)
            told.append((words[1], [one for one, label in notes].index(place)))
    return told


def played(text, filling):
    """The notes, the references and the ends."""
    counters, parts = model.told(text)
    rows = model.unrolled(parts, parts[-1][0])
    numbers = {words[0]: 0 for words in counters}
    boxes = dict(numbers)
    notes = []
    for words in rows:
        for done in filling.get(words[1], []) if words[0] == "open" else [words]:
            do(counters, numbers, boxes, done)
        if words[0] == "note":
            notes.append((words[1], prints(counters, numbers, words[1])))
    refs = [(label, number, notes[number][1]) for label, number in references(rows)]
    return tuple(notes), tuple(refs), tuple((numbers[words[0]], boxes[words[0]]) for words in counters)


def goes_wrong(earlier, later):
    """Whether a note does not follow the one ahead of it (None for the first one)."""
    if earlier is None:
        return later[-1] != 1
    if earlier[:-1] == later[:-1]:
        return later[-1] != earlier[-1] + 1
    return later[-1] != 1


def faults(text, filling):
    """The faults, each one as the document says it."""
    notes, refs, ends = played(text, filling)
    plain = played(text, {})[0]
    found = set()
    for at, (counter, told) in enumerate(notes):
        earlier = [other for name, other in notes[:at] if name == counter]
        if told in earlier:
            found.add("twin")
        if any(told < other for other in earlier):
            found.add("fall")
        if goes_wrong(earlier[-1] if earlier else None, told):
            found.add("gap")
        if told != plain[at][1]:
            found.add("moved")
    for label, number, told in refs:
        if len([1 for note in notes if note == (notes[number][0], told)]) >= 2:
            found.add("astray")
    return tuple(sorted(found))


def opened(parts, name):
    """Whether an open place is in a part with all parts that it puts."""
    return any(words[0] == "open" for words in model.unrolled(parts, name))


def after(text, name, counter, number, kept):
    """The number and the box of a counter after a part, with these ahead of it."""
    counters, parts = model.told(text)
    numbers = {words[0]: 0 for words in counters}
    boxes = dict(numbers)
    numbers[counter], boxes[counter] = number, kept
    for words in model.unrolled(parts, name):
        if words[0] in ("note", "skip", "set", "keep", "back"):
            do(counters, numbers, boxes, words)
    return numbers[counter], boxes[counter]


def allowed(text, leaves, filling):
    """Whether leaves (a dict) allow a filling."""
    counters, parts = model.told(text)
    places = [words[1] for words in model.unrolled(parts, parts[-1][0]) if words[0] == "open"]
    for name, rows in filling.items():
        for words in rows:
            if name not in places or [words[1]] not in [one[:1] for one in counters]:
                return False
            if leaves.get((name, words[1])) not in (["any"] if words[0] == "set" else ["on", "any"]):
                return False
    return True
