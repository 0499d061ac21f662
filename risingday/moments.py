"""The moments of a day, what makes them, and what keeps a day from being plain."""
from risingday.days import need_day
from risingday.errors import BadKey, BadNumber, Ring
from risingday.keys import is_moment_key, need_moment_key
from risingday.kinds import is_count_or_never, is_listed
from risingday.needs import does_stand, need_unbarred, reached, shortest_ring


def moments(day):
    """The dict of all moments, in order."""
    need_unbarred(day)
    return free_moments(day)


def free_moments(day):
    """The dict of the free moments, in order, of any day."""
    need_day(day)
    workings = day.workings()
    return workings.in_order(workings.worked(workings.told, workings.row))


def known_free(day, key):
    """The dict of the free moments, with that of the key among them."""
    need_moment_key(day, key)
    found = free_moments(day)
    if key not in found:
        raise Ring(shortest_ring(day))
    return found


def moment(day, key):
    """The value of a moment."""
    return known_free(day, key)[key]


def along(day, row):
    """The dict of the moments, worked out along a standing row and in its order."""
    need_day(day)
    if not is_listed(row) or not does_stand(day, list(row)):
        raise BadKey(row)
    workings = day.workings()
    return workings.worked(workings.told, row)


def made_by(day, key):
    """The list of what makes the value of a moment, of what it needs, in order."""
    numbers = known_free(day, key)
    workings = day.workings()
    makers = workings.rules[key].makers(workings.told, numbers)
    return [need for need in workings.needs[key] if need in makers]


def need_values(day, table):
    """A dict from moments to minutes or never."""
    for key, number in table.items():
        if not is_moment_key(day, key):
            raise BadKey(key)
        if not is_count_or_never(number):
            raise BadNumber(number)


def worked_from(day, table):
    """The dict of the moments that are put in, and of those that hang on them, in order."""
    need_day(day)
    need_values(day, table)
    need_unbarred(day)
    workings = day.workings()
    numbers = {}
    for key in workings.row:
        numbers[key] = table[key] if key in table else workings.given(key, workings.told, numbers, 0)
    hanging = reached(workings.behind, list(table))
    return {key: numbers[key] for key in workings.rules if key in table or key in hanging}


def many_at(day, meeting):
    """How many people have a meeting."""
    return len([key for key in day.all_keys() if day.the_errand(key) == ("meet", meeting.name)])


def not_plain(day):
    """The list of what keeps a day from being plain."""
    need_day(day)
    desks = [("desks", counter.name) for counter in day.all_counters() if counter.desks > 1]
    quorums = [("quorum", meeting.name) for meeting in day.all_meetings() if meeting.quorum < many_at(day, meeting)]
    guests = [("guest", key) for room in day.all_rooms() for key in room.order if day.is_early(key)]
    return [*desks, *quorums, *guests]


def is_plain(day):
    """Whether every moment is the greatest of rising maps."""
    return not_plain(day) == []
