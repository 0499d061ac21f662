"""Papers about queues."""
from risingday.arrivals import is_index, need_index, need_queue
from risingday.errors import BadNumber
from risingday.kinds import LAST_MINUTE, is_between
from risingday.never import is_less
from risingday.shifts import busy_end, busy_from, gainers, gains_of, has_one_n, need_spaced, spaced_begin, spaced_begins


def busy_paper(queue):
    """The paper of the last end, with the least caller that shows it; None without callers."""
    end = busy_end(queue)
    shown = [("busy", index) for index in range(len(queue.callers)) if busy_from(queue, index) == end]
    return shown[0] if shown else None


def spaced_paper(queue, j):
    """The paper of the j-th begin in a row, with the least i that shows it."""
    need_spaced(queue)
    if not is_index(queue, j):
        raise BadNumber(j)
    begin = spaced_begins(queue)[j]
    return [("spaced", j, i) for i in range(j + 1) if spaced_begin(queue, j, i) == begin][0]


def gains_paper(queue, who):
    """The least paper in which a caller gains the most, None if it never gains."""
    need_queue(queue)
    need_index(queue, who)
    best = None
    earliest = None
    for index, arrival, other in gains_of(queue):
        begin = queue.arrived(index, arrival).begin_list()[who]
        if other == who and is_less(begin, earliest):
            best = ("gains", index, arrival, who)
            earliest = begin
    return best


def has_form(value, word, many):
    """Whether any value is a tuple of a word and so many items."""
    return isinstance(value, tuple) and len(value) == many + 1 and value[0] == word


def shown_by(queue, value):
    """The number that any value shows as a paper of the last end or of a begin in a row, None if it is none."""
    need_queue(queue)
    if queue.hours.spans() is not None:
        return None
    if has_form(value, "busy", 1) and queue.desks == 1 and is_index(queue, value[1]):
        return busy_from(queue, value[1])
    if has_form(value, "spaced", 2) and has_one_n(queue) and is_index(queue, value[1]):
        _, j, i = value
        return spaced_begin(queue, j, i) if is_between(i, 0, j) else None
    return None


def lets_gains(queue, value):
    """Whether any value is a paper by which one caller begins earlier as one ahead of it comes later."""
    need_queue(queue)
    if not has_form(value, "gains", 3):
        return False
    _, index, arrival, who = value
    if not is_index(queue, index) or not is_index(queue, who):
        return False
    if not is_between(arrival, queue.callers[index][0] + 1, LAST_MINUTE):
        return False
    return who in gainers(queue, index, arrival)
