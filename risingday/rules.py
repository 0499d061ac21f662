"""The rules by which errands begin and end, and the rows that they make of arrivals."""
from risingday.checks import need_count, need_desks, need_minute, need_minutes
from risingday.errors import BadNumber, BadPart
from risingday.hours import Hours
from risingday.kinds import is_between, is_count, is_listed
from risingday.never import lesser
from risingday.nth import desk_free, greatest, later_by, nth


def need_hours(hours):
    """An Hours."""
    if not isinstance(hours, Hours):
        raise BadPart("hours")


def need_quorum(quorum, arrivals):
    """A quorum that the arrivals can make."""
    if not is_between(quorum, 1, len(arrivals)):
        raise BadNumber(quorum)


def need_lengths(lengths, many):
    """A list of so many lengths."""
    if not is_listed(lengths) or len(lengths) != many or not all([is_count(n) for n in lengths]):
        raise BadPart("lengths")


def need_notices(notices, many):
    """A list of so many notices, None for those without one."""
    if not is_listed(notices) or len(notices) != many:
        raise BadPart("notices")
    if not all([notice is None or is_count(notice) for notice in notices]):
        raise BadPart("notices")


def counter_begin(arrival, begin_ahead, ends_ahead, desks, hours, n):
    """When an errand begins at a counter."""
    need_minute(arrival)
    need_minute(begin_ahead)
    need_minutes("ends", ends_ahead)
    need_desks(desks)
    need_hours(hours)
    need_count(n)
    return hours.gate(n, greatest([arrival, begin_ahead, desk_free(ends_ahead, desks)]))


def counter_row(arrivals, lengths, desks, hours):
    """The (begin, end) of all errands at a counter, in its order."""
    need_minutes("arrivals", arrivals)
    need_lengths(lengths, len(arrivals))
    need_desks(desks)
    need_hours(hours)
    row = []
    for arrival, n in zip(arrivals, lengths):
        begin_ahead = row[-1][0] if row else 0
        begin = counter_begin(arrival, begin_ahead, [end for _, end in row], desks, hours, n)
        row.append((begin, later_by(begin, n)))
    return row


def meeting_begin(opens, arrivals, quorum):
    """When a meeting begins, for all alike."""
    need_count(opens)
    need_minutes("arrivals", arrivals)
    need_quorum(quorum, arrivals)
    return greatest([opens, nth(arrivals, quorum)])


def meeting_end(begin, length, arrival):
    """When a meeting ends for one who arrives then."""
    need_minute(begin)
    need_count(length)
    need_minute(arrival)
    return greatest([later_by(begin, length), arrival])


def meeting_row(opens, length, quorum, arrivals):
    """The (begin, end) of all who have a meeting."""
    need_count(opens)
    need_count(length)
    begin = meeting_begin(opens, arrivals, quorum)
    return [(begin, meeting_end(begin, length, arrival)) for arrival in arrivals]


def room_begin(arrival, end_ahead, turn):
    """When an errand begins in a room."""
    need_minute(arrival)
    need_minute(end_ahead)
    need_count(turn)
    return greatest([arrival, later_by(end_ahead, turn)])


def room_end(begin, n):
    """When an errand in a room ends that is not a guest with one behind it."""
    need_minute(begin)
    need_count(n)
    return later_by(begin, n)


def guest_end(begin, n, notice, behind):
    """When a guest ends, behind being the arrival of the one behind it."""
    need_minute(begin)
    need_count(n)
    need_count(notice)
    need_minute(behind)
    return lesser(later_by(begin, n), later_by(greatest([begin, behind]), notice))


def room_row(arrivals, lengths, turn, notices):
    """The (begin, end) of all errands in a room, in its order."""
    need_minutes("arrivals", arrivals)
    need_lengths(lengths, len(arrivals))
    need_count(turn)
    need_notices(notices, len(arrivals))
    row = []
    for place, arrival in enumerate(arrivals):
        begin = room_begin(arrival, row[-1][1], turn) if row else arrival
        if notices[place] is None or place + 1 == len(arrivals):
            end = room_end(begin, lengths[place])
        else:
            end = guest_end(begin, lengths[place], notices[place], arrivals[place + 1])
        row.append((begin, end))
    return row
