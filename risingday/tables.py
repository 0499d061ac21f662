"""Tables of moments, good from below or from above.

The side of a table is told by what it takes moments as that it does not tell: 0 from below, never from above.
"""
from risingday.errors import BadKey, BadPaper, BadPart
from risingday.keys import is_moment_key, need_moment_key
from risingday.kinds import is_count_or_never, is_listed
from risingday.needs import need_unbarred, reached
from risingday.never import greater, is_less, lesser

BELOW = 0
ABOVE = None


def fits(side, number, bound):
    """Whether a number is at most the bound, from below, or at least the bound, from above."""
    return not is_less(bound, number) if side == BELOW else not is_less(number, bound)


def is_table(day, value):
    """Whether any value is a dict from moments of the day to minutes or never."""
    if not isinstance(value, dict) or not all([is_moment_key(day, key) for key in value]):
        return False
    return all([is_count_or_never(number) for number in value.values()])


def keep_rules(workings, told, table, keys, side):
    """Whether the numbers of some of the keys of a table keep the rules of their moments, by told values."""
    return all([fits(side, table[key], workings.given(key, told, table, side)) for key in keys])


def is_good(day, table, side):
    """Whether any value is a table that is good from a side."""
    need_unbarred(day)
    if not is_table(day, table):
        return False
    workings = day.workings()
    return keep_rules(workings, workings.told, table, list(table), side)


def need_good(day, table, side):
    """A table that is good from a side."""
    if not is_good(day, table, side):
        raise BadPaper("below" if side == BELOW else "above")


def need_key_unbarred(day, key):
    """The key of a moment, of a day that is not barred."""
    need_moment_key(day, key)
    need_unbarred(day)


def shows(day, key, number, table, side):
    """Whether any value table shows that a moment is on its side of any value number."""
    need_key_unbarred(day, key)
    if not is_count_or_never(number) or not is_good(day, table, side):
        return False
    return fits(side, number, table.get(key, side))


def without(table, key):
    """The table without an entry."""
    return {other: number for other, number in table.items() if other != key}


def can_do_without(workings, table, key, side):
    """Whether a good table is good without an entry, too: those that need it have to be looked at."""
    hanging = [other for other in workings.behind[key] if other in table]
    return keep_rules(workings, workings.told, without(table, key), hanging, side)


def slim(day, key, side):
    """The told slim table of a moment."""
    need_key_unbarred(day, key)
    workings = day.workings()
    numbers = workings.worked(workings.told, workings.row)
    under = reached(workings.needs, [key])
    table = {other: numbers[other] for other in numbers if other == key or other in under}
    for other in reversed(workings.row):
        if other in under and can_do_without(workings, table, other, side):
            table = without(table, other)
    return table


def is_slim(day, key, table, side):
    """Whether any value is a table that is slim for a moment."""
    need_key_unbarred(day, key)
    if not is_good(day, table, side) or key not in table:
        return False
    return not any([other != key and can_do_without(day.workings(), table, other, side) for other in table])


def round_of(day, table, side):
    """What all rules give of a good table."""
    need_good(day, table, side)
    workings = day.workings()
    return {key: workings.given(key, workings.told, table, side) for key in workings.rules}


def joined(day, one, other, side):
    """The greater, from below, or the lesser, from above, of two good tables."""
    need_good(day, one, side)
    need_good(day, other, side)
    table = {key: one[key] for key in one}
    for key, number in other.items():
        if key not in table:
            table[key] = number
        else:
            table[key] = greater(table[key], number) if side == BELOW else lesser(table[key], number)
    return table


def best(day, keys, side):
    """The best table on some keys alone."""
    need_unbarred(day)
    if not is_listed(keys) or not all([is_moment_key(day, key) for key in keys]):
        raise BadPart("keys")
    for place, key in enumerate(keys):
        if key in keys[:place]:
            raise BadKey(key)
    workings = day.workings()
    table = {}
    for key in workings.row:
        if key in keys:
            table[key] = workings.given(key, workings.told, table, side)
    return table
