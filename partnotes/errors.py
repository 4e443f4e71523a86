"""The errors of the package.

No constructor calls that of its base class: Python itself keeps the arguments
of a call as the message, and a message of our own would have to show arguments
that can be any objects.
"""


class NoteError(ValueError):
    """The base class of all errors but NoName and NoPlace."""


class InvalidRow(NoteError):
    """A row cannot have this argument."""

    def __init__(self, word):
        self.word = word


class InvalidPart(NoteError):
    """A part cannot have this argument."""

    def __init__(self, word):
        self.word = word


class InvalidBook(NoteError):
    """These counters and parts are no book; the word tells why."""

    def __init__(self, word):
        self.word = word


class InvalidText(NoteError):
    """The line with this number cannot stand where it stands."""

    def __init__(self, at):
        self.at = at


class InvalidFilling(NoteError):
    """This is no filling, or none for this book; the word tells why."""

    def __init__(self, word):
        self.word = word


class InvalidLeaves(NoteError):
    """The thing with this number is no leave."""

    def __init__(self, at):
        self.at = at


class InvalidMap(NoteError):
    """A map cannot have this argument."""

    def __init__(self, word):
        self.word = word


class InvalidFault(NoteError):
    """There is no such fault."""


class InvalidCommand(NoteError):
    """A desk knows no such command, or has no live book for it yet."""


class Mismatch(NoteError):
    """These things cannot be taken together."""


class Refused(NoteError):
    """The thing with this number cannot be put in."""

    def __init__(self, at):
        self.at = at


class NoName(KeyError):
    """Nothing has this name."""

    def __init__(self, name):
        self.name = name


class NoPlace(IndexError):
    """There is no place with this number."""

    def __init__(self, at):
        self.at = at
