"""Courses: what a part to come can do to some counters.

A course is a tuple with a word for each counter: "still"; "on" (gone on); "at"
(at some number) and "both" (gone on, and then at some number); "new" and "nil"
(started anew, as a counter above went on). Where both words stand for counters
that start anew, "nil" is at 0, and "new" is at any number.

A move is what a word means for the number of the counter itself: "still", "on",
"at" (any number) or "nil" (0).
"""

STANDING = {"": ("still",), "on": ("still", "on"), "any": ("still", "on", "at", "both")}

GONE_ON = ("on", "both", "new", "nil")

# What a counter needs for a word: no leave (0), "on" (1) or "any" (2).
NEEDS = {"still": 0, "nil": 0, "on": 1, "new": 1, "at": 2, "both": 2}

MOVES = {"still": "still", "on": "on", "at": "at", "both": "at", "new": "at", "nil": "nil"}


def plainly(word):
    """Return the words of a counter with a word in the leaves that starts anew, without a difference."""
    return ("new",)


def briefly(word):
    """Return them such that each number that can be comes with one of them."""
    if word == "":
        return ("nil",)
    return ("new",)


def widely(word):
    """Return them such that 0 comes also without any word."""
    if word == "":
        return ("nil",)
    return ("nil", "new")


def starts_anew(course, counters, upper):
    """Tell whether a counter under an upper one starts anew, behind a course of the earlier counters."""
    return upper != "" and course[counters.index(upper)] in GONE_ON


def courses(counters, name, leaves, started):
    """Return all courses at the open places of a name, for pairs of counters with their upper ones.

    started is the function that tells the words of a counter that starts anew.
    """
    known = [counter for counter, upper in counters]
    found = [()]
    for counter, upper in counters:
        word = leaves.word_of(name, counter)
        anew = started(word)
        found = [
            (*course, one) for course in found
            for one in (anew if starts_anew(course, known, upper) else STANDING[word])
        ]
    return found


def choices(options):
    """Return all tuples with one thing from each of some lists."""
    found = [()]
    for several in options:
        found = [(*earlier, one) for earlier in found for one in several]
    return found
