"""Plain days that are alike for all minutes of leaving, and what tells the others apart."""
from risingday.checks import need_told_minute
from risingday.errors import BadPart
from risingday.keys import moment_keys
from risingday.kinds import is_listed
from risingday.summaries import Summary, need_plain
from risingday.sumrows import base_at, counting, first_apart, rows_told

MOST_DAYS = 8


def names_told(day):
    """The list of the names of the people of a day."""
    return [person.name for person in day.persons()]


def are_comparable(one, other):
    """Whether two days have people of the same names, and the same moments."""
    return set(names_told(one)) == set(names_told(other)) and set(moment_keys(one)) == set(moment_keys(other))


def need_comparable(one, other):
    """Two plain days that can be compared."""
    need_plain(one)
    need_plain(other)
    if not are_comparable(one, other):
        raise BadPart("people")


def leaves_apart(row, other, names, least):
    """The dict of leaves for which two rows give other things, none of them below least; None if they are alike."""
    leaves = {name: least for name in names}
    base = base_at(row, least)
    if base != base_at(other, least):
        return leaves
    maps = counting(row, base)
    others = counting(other, base)
    for name in names:
        minute = first_apart(base, maps.get(name), others.get(name))
        if minute is not None:
            leaves[name] = minute
            return leaves
    return None


def difference(one, other, *, least=0):
    """The first moment that is another one in both days for some leaves, with such leaves; None if they are alike."""
    need_comparable(one, other)
    need_told_minute(least)
    rows = rows_told(one.workings())
    others = rows_told(other.workings())
    for key, row in rows.items():
        leaves = leaves_apart(row, others[key], names_told(one), least)
        if leaves is not None:
            return (key, leaves)
    return None


def alike(one, other, *, least=0):
    """Whether each moment is the same in both days for all leaves that are not below least."""
    return difference(one, other, least=least) is None


def classes(days):
    """The list of the lists of the indexes of days that are alike."""
    if not is_listed(days) or not 1 <= len(days) <= MOST_DAYS:
        raise BadPart("days")
    summaries = [Summary(day) for day in days]
    for day in days:
        if not are_comparable(days[0], day):
            raise BadPart("people")
    found = []
    for index, summary in enumerate(summaries):
        own = [lot for lot in found if summaries[lot[0]] == summary]
        if own:
            own[0].append(index)
        else:
            found.append([index])
    return found
