"""What an integer, a number, an index, a name, a sequence and a pair is."""

ROW_WORDS = ("note", "skip", "set", "keep", "back", "ref", "put", "open", "part")

LONGEST_NAME = 4


def is_integer(value):
    """Tell whether any value is an integer; True and False are none."""
    return isinstance(value, int) and not isinstance(value, bool)


def is_number(value):
    """Tell whether any value is an integer from 0 on."""
    return is_integer(value) and value >= 0


def is_index(value, many):
    """Tell whether any value is the number of one of so many things."""
    return is_number(value) and value < many


def is_name(value):
    """Tell whether any value is a name."""
    if not isinstance(value, str) or value in ROW_WORDS:
        return False
    # Not islower and isalpha: these take letters from outside a to z, too.
    return 1 <= len(value) <= LONGEST_NAME and all(["a" <= letter <= "z" for letter in value])


def is_sequence(value):
    """Tell whether any value is a list or a tuple."""
    return isinstance(value, (list, tuple))


def is_pair(value):
    """Tell whether any value is a tuple of two things."""
    return isinstance(value, tuple) and len(value) == 2
