"""Tables that show from above when moments are, and papers of both kinds of tables."""
from risingday.below import shows_at_least, slim_below
from risingday.errors import BadNumber
from risingday.keys import is_moment_key
from risingday.kinds import is_count
from risingday.moments import moment
from risingday.needs import need_unbarred
from risingday.never import is_less
from risingday.tables import ABOVE, best, is_good, is_slim, joined, need_key_unbarred, round_of, shows, slim


def is_above(day, table):
    """Whether any value is a table that is good from above."""
    return is_good(day, table, ABOVE)


def shows_at_most(day, key, number, table):
    """Whether any value table shows that a moment is at most any value number."""
    return shows(day, key, number, table, ABOVE)


def slim_above(day, key):
    """The told slim table of a moment."""
    return slim(day, key, ABOVE)


def is_slim_above(day, key, table):
    """Whether any value is a table that is slim for a moment."""
    return is_slim(day, key, table, ABOVE)


def round_above(day, table):
    """What all rules give of a good table, other moments being taken as never."""
    return round_of(day, table, ABOVE)


def lesser_of(day, one, other):
    """The lesser of two good tables."""
    return joined(day, one, other, ABOVE)


def best_above(day, keys):
    """The best table on these keys alone."""
    return best(day, keys, ABOVE)


def exact_paper(day, key):
    """The paper of what a moment is, with the told slim tables."""
    below = slim_below(day, key)
    return (below[key], below, slim_above(day, key))


def shows_exact(day, key, paper):
    """Whether any value is an exact paper of a moment."""
    need_key_unbarred(day, key)
    if not isinstance(paper, tuple) or len(paper) != 3:
        return False
    number, below, above = paper
    return shows_at_least(day, key, number, below) and shows_at_most(day, key, number, above)


def limit_paper(day, key, limit):
    """The paper that a moment keeps a limit, or that it is broken, with the told slim table."""
    need_key_unbarred(day, key)
    if not is_count(limit):
        raise BadNumber(limit)
    if is_less(limit, moment(day, key)):
        return ("broken", key, limit, slim_below(day, key))
    return ("kept", key, limit, slim_above(day, key))


def shows_limit(day, paper):
    """Whether any value is a limit paper of a moment of the day."""
    need_unbarred(day)
    if not isinstance(paper, tuple) or len(paper) != 4:
        return False
    word, key, limit, table = paper
    if not is_moment_key(day, key) or not is_count(limit):
        return False
    if word == "kept":
        return shows_at_most(day, key, limit, table)
    return word == "broken" and shows_at_least(day, key, limit + 1, table)
