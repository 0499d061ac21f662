"""How much a thing can be late until a target is not kept any more."""
from risingday.checks import need_count
from risingday.errors import NotSo
from risingday.keys import need_moment_key
from risingday.kinds import LAST_MINUTE
from risingday.moments import is_plain
from risingday.needs import need_unbarred, reached
from risingday.never import is_less, lesser
from risingday.things import need_thing, things_of, told_late


def need_target(day, key, minute):
    """A moment of the day, and a minute at which it is wanted."""
    need_moment_key(day, key)
    need_count(minute)


def row_under(workings, key):
    """The row of needs of what a moment rests on and, as the last one, of the moment itself."""
    under = reached(workings.needs, [key])
    return [other for other in workings.row if other == key or other in under]


def comes_late(workings, row, lateness):
    """What the last moment of a row is with a lateness."""
    return workings.worked(told_late(workings.told, lateness), row)[row[-1]]


def borne(workings, row, thing, minute):
    """What a thing bears until the last moment of a row is above the minute."""
    if is_less(minute, comes_late(workings, row, {})):
        return None
    low = 0
    high = LAST_MINUTE
    # Most things do not touch the target at all, and bear the most.
    middle = high
    while low < high:
        if is_less(minute, comes_late(workings, row, {thing: middle})):
            high = middle - 1
        else:
            low = middle
        middle = (low + high + 1) // 2
    return low


def bears(day, thing, key, minute):
    """The greatest lateness of a thing alone with which the target is kept, None if it is not kept at all."""
    need_thing(day, thing)
    need_target(day, key, minute)
    workings = day.workings()
    return borne(workings, row_under(workings, key), thing, minute)


def bears_all(day, key, minute):
    """The dict from all things, in their order, to what they bear."""
    need_unbarred(day)
    need_target(day, key, minute)
    workings = day.workings()
    row = row_under(workings, key)
    return {thing: borne(workings, row, thing, minute) for thing in things_of(day)}


def critical(day, key, minute):
    """The list of the things that bear no lateness, in their order."""
    return [thing for thing, most in bears_all(day, key, minute).items() if most == 0]


def dues(day, key, minute):
    """The dict from what a target of a plain day hangs on, moments ahead of leavings, to their dues."""
    need_unbarred(day)
    need_target(day, key, minute)
    if not is_plain(day):
        raise NotSo("dues")
    workings = day.workings()
    row = row_under(workings, key)
    if is_less(minute, comes_late(workings, row, {})):
        raise NotSo("target")
    found = {key: minute}
    for other in reversed(row):
        for source, rising in workings.rules[other].parts(workings.told):
            found[source] = lesser(found.get(source), rising.back(found[other]))
    told = workings.in_order(found)
    for person in day.persons():
        leaving = ("leaves", person.name)
        if leaving in found:
            told[leaving] = found[leaving]
    return told
