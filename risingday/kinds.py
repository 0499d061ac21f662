"""Of what kind a value is. All functions here take any value."""

LETTERS = "abcdefghijklmnopqrstuvwxyz"
LAST_MINUTE = 9999
LONGEST = 600
MOST_DESKS = 3


def is_whole(value):
    """Whether it is an integer; True and False are none."""
    return isinstance(value, int) and not isinstance(value, bool)


def is_between(value, low, high):
    """Whether it is an integer from low to high."""
    return is_whole(value) and low <= value <= high


def is_count(value):
    """Whether it is an integer of 0 or more."""
    return is_whole(value) and value >= 0


def is_told_minute(value):
    """Whether it is an integer that may be told as a minute."""
    return is_between(value, 0, LAST_MINUTE)


def is_told_length(value):
    """Whether it is an integer that may be told as a length, a turn or a notice."""
    return is_between(value, 0, LONGEST)


def is_count_or_never(value):
    """Whether it is an integer of 0 or more, or never."""
    return value is None or is_count(value)


def is_listed(value):
    """Whether it can stand where a list is asked for."""
    return isinstance(value, (list, tuple))


def is_name(value):
    """Whether it is a string of one to eight letters."""
    return isinstance(value, str) and 1 <= len(value) <= 8 and all([letter in LETTERS for letter in value])
