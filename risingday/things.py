"""Things that can be late, and the moments of a day with a lateness."""
from risingday.counters import is_key
from risingday.errors import BadNumber, BadPart, BadThing
from risingday.kinds import is_between, is_name
from risingday.needs import need_unbarred

MOST_LATE = 10000


def is_thing(day, value):
    """Whether any value is a thing of the day."""
    need_unbarred(day)
    if not isinstance(value, tuple) or len(value) != 2 or not isinstance(value[0], str):
        return False
    return (is_name(value[1]) or is_key(value[1])) and value in day.workings().told


def need_thing(day, thing):
    """A thing of the day."""
    if not is_thing(day, thing):
        raise BadThing(thing)


def things_of(day):
    """The list of all things of a day."""
    need_unbarred(day)
    return list(day.workings().told)


def value_of(day, thing):
    """The told value of a thing."""
    need_thing(day, thing)
    return day.workings().told[thing]


def told_late(told, lateness):
    """The dict of told values with those of some things greater."""
    return {thing: number + lateness.get(thing, 0) for thing, number in told.items()}


def late_moments(day, lateness):
    """The dict of the moments with a lateness, in order."""
    need_unbarred(day)
    if not isinstance(lateness, dict):
        raise BadPart("lateness")
    for thing, number in lateness.items():
        need_thing(day, thing)
        if not is_between(number, 0, MOST_LATE):
            raise BadNumber(number)
    workings = day.workings()
    return workings.in_order(workings.worked(told_late(workings.told, lateness), workings.row))
