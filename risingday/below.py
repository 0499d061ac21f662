"""Tables that show from below when moments are."""
from risingday.tables import BELOW, best, is_good, is_slim, joined, round_of, shows, slim


def is_below(day, table):
    """Whether any value is a table that is good from below."""
    return is_good(day, table, BELOW)


def shows_at_least(day, key, number, table):
    """Whether any value table shows that a moment is at least any value number."""
    return shows(day, key, number, table, BELOW)


def slim_below(day, key):
    """The told slim table of a moment."""
    return slim(day, key, BELOW)


def is_slim_below(day, key, table):
    """Whether any value is a table that is slim for a moment."""
    return is_slim(day, key, table, BELOW)


def round_below(day, table):
    """What all rules give of a good table, other moments being taken as 0."""
    return round_of(day, table, BELOW)


def greater_of(day, one, other):
    """The greater of two good tables."""
    return joined(day, one, other, BELOW)


def best_below(day, keys):
    """The best table on these keys alone."""
    return best(day, keys, BELOW)
