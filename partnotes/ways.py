"""Ways in which faults come about, as lists of demands (see fields)."""

from partnotes.fields import NO_NOTE


def equal_at_first(many, early, late):
    """Return the demands that two notes print the same at so many places from the top."""
    return [(place, "same", early, late, 0) for place in range(many)]


def twin_way(size, early, late):
    """Return the way in which two notes with so many places print the same."""
    return equal_at_first(size, early, late)


def fall_ways(size, early, late):
    """Return the ways in which a note prints less than an earlier one."""
    return [[*equal_at_first(at, early, late), (at, "less", early, late, 0)] for at in range(size)]


def gap_ways(size, early, late):
    """Return the ways in which a note does not follow the one ahead of it."""
    last = size - 1
    no_one = (last, "apart", NO_NOTE, late, 1)
    changed = [[(at, "apart", early, late, 0), no_one] for at in range(last)]
    return [[*equal_at_first(last, early, late), (last, "apart", early, late, 1)], *changed]


def neighbours(numbers):
    """Return the pairs of notes one of which stands ahead of the other one."""
    return list(zip(numbers, numbers[1:]))


def pairs_of(numbers):
    """Return all pairs of notes, the earlier one first."""
    return [(early, late) for early in numbers for late in numbers if early < late]


def ways_to_twin(size, numbers):
    """Return the ways in which two of the notes of a counter print the same."""
    return [twin_way(size, early, late) for early, late in pairs_of(numbers)]


def ways_astray(size, numbers, linked):
    """Return the ways in which a reference to one of the notes of a counter prints what another one prints, too."""
    pairs = [(early, late) for early, late in pairs_of(numbers) if early in linked or late in linked]
    return [twin_way(size, early, late) for early, late in pairs]


def ways_to_fall(size, numbers):
    """Return the ways in which one of the notes of a counter prints less than an earlier one."""
    # If none prints less than the one ahead of it, none prints less than any earlier one.
    return [way for early, late in neighbours(numbers) for way in fall_ways(size, early, late)]


def ways_to_gap(size, numbers):
    """Return the ways in which one of the notes of a counter does not follow."""
    first = [(size - 1, "apart", NO_NOTE, numbers[0], 1)]
    return [first, *[way for early, late in neighbours(numbers) for way in gap_ways(size, early, late)]]


def ways_to_move(field, numbers):
    """Return the ways in which one of the notes of a counter does not print what it prints without a filling."""
    still = ("still",) * len(field.frame.opens)
    return [
        [(place, "apart", NO_NOTE, at, forms[still][at][0])]
        for at in numbers for place, forms in enumerate(field.forms)
    ]


def ways_of(fault, field, numbers, linked):
    """Return the ways of a fault for the notes of the last counter of a field, some of them linked by references."""
    size = len(field.forms)
    if fault == "twin":
        return ways_to_twin(size, numbers)
    if fault == "astray":
        return ways_astray(size, numbers, linked)
    if fault == "fall":
        return ways_to_fall(size, numbers)
    if fault == "gap":
        return ways_to_gap(size, numbers)
    return ways_to_move(field, numbers)
