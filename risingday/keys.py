"""The keys of errands and of moments."""
from risingday.counters import is_key
from risingday.days import need_day
from risingday.errors import BadKey

WORDS = ("arrives", "begins", "ends")


def is_errand_key(day, value):
    """Whether any value is the key of an errand of the day."""
    need_day(day)
    return is_key(value) and value in day.all_keys()


def is_moment_key(day, value):
    """Whether any value is the key of a moment of the day."""
    need_day(day)
    if not isinstance(value, tuple) or len(value) != 3 or not is_key(value[:2]) or not isinstance(value[2], str):
        return False
    return value in day.workings().rules


def need_moment_key(day, key):
    """The key of a moment of the day."""
    if not is_moment_key(day, key):
        raise BadKey(key)


def errand_keys(day):
    """The list of the keys of the errands, in order."""
    need_day(day)
    return day.all_keys()


def moment_keys(day):
    """The list of the keys of the moments, in order."""
    need_day(day)
    return list(day.workings().rules)


def key_place(day, key):
    """The number of the moments ahead of this one, in order."""
    need_moment_key(day, key)
    return moment_keys(day).index(key)
