"""What changes in a queue when one caller comes later, and what still rises."""
from risingday.arrivals import need_index, need_open, need_queue
from risingday.checks import need_count
from risingday.errors import BadIndex, BadNumber, NotSo
from risingday.kinds import LAST_MINUTE, is_between
from risingday.never import greater, is_less, lesser
from risingday.nth import desk_free
from risingday.rising import Rising, greatest_of, since


def others_by_ticket(queue, index):
    """The list of all other indexes by their tickets."""
    return [other for other in queue.tickets() if other != index]


def arrival_behind(queue, index, other):
    """The least arrival with which a caller stands behind another one."""
    arrival = queue.callers[other][0]
    return arrival if other < index else arrival + 1


def free_from(start, minute):
    """The map that leads each minute from a start on to the greater one of it and of a minute, perhaps never."""
    ahead = [(0, 0, True)] if start > 0 else []
    if minute is None:
        return Rising([*ahead, (start, None, False)])
    level = max(int(start), minute)
    return Rising([*ahead, (start, level, False), (level + 1, level + 1, True)])


def own_map(queue, index):
    """The begin of a caller as a map of the minute at which this caller arrives."""
    need_queue(queue)
    need_index(queue, index)
    others = others_by_ticket(queue, index)
    # Those ahead of the caller begin and end as if it were not there.
    rest = queue.without(index)
    begins = rest.begin_list()
    ends = rest.end_list()
    maps = [since(0)]
    for place, other in enumerate(others):
        ahead = [one if one < index else one - 1 for one in others[:place + 1]]
        free = greater(begins[ahead[-1]], desk_free([ends[one] for one in ahead], queue.desks))
        maps.append(free_from(arrival_behind(queue, index, other), free))
    return greatest_of(maps) >> queue.hours.gate_map(queue.callers[index][1])


def latest_arrival(queue, index, minute):
    """The greatest told minute as the arrival of a caller with which it has begun at most at a minute, or None."""
    need_queue(queue)
    need_index(queue, index)
    need_count(minute)
    back = own_map(queue, index).back(minute)
    # A back that is not there is None, not never: it is no greater than the last minute.
    return back if back is None else lesser(back, LAST_MINUTE)


def steps_of(queue, index):
    """The ascending list of the later arrivals with which a caller comes to stand directly behind another one."""
    need_queue(queue)
    need_index(queue, index)
    steps = sorted(set([int(arrival_behind(queue, index, other)) for other in others_by_ticket(queue, index)]))
    return [step for step in steps if is_between(step, queue.callers[index][0] + 1, LAST_MINUTE)]


def word_between(queue, index, later, other):
    """How another caller stands to one who comes later: ahead or behind both ways, or overtaking."""
    if arrival_behind(queue, index, other) <= queue.callers[index][0]:
        return "ahead"
    return "overtakes" if arrival_behind(queue, index, other) <= later.callers[index][0] else "behind"


def effects(queue, index, arrival):
    """The dict from all other callers to how they stand to one who comes later, and to their begins both ways."""
    need_queue(queue)
    need_index(queue, index)
    if not is_between(arrival, queue.callers[index][0], LAST_MINUTE):
        raise BadNumber(arrival)
    later = queue.arrived(index, arrival)
    begins = queue.begin_list()
    others = later.begin_list()
    return {other: (word_between(queue, index, later, other), begins[other], others[other])
            for other in range(len(queue.callers)) if other != index}


def best_later(queue, index, who):
    """The least arrival of a caller, from its own on, with which another one begins the earliest, and this begin."""
    need_queue(queue)
    need_index(queue, index)
    need_index(queue, who)
    if who == index:
        raise BadIndex(who)
    best = (queue.callers[index][0], queue.begin_list()[who])
    # As long as the tickets stay in the same order nobody begins earlier: so the steps are enough.
    for arrival in steps_of(queue, index):
        begin = queue.arrived(index, arrival).begin_list()[who]
        if is_less(begin, best[1]):
            best = (arrival, begin)
    return best


def gainers(queue, index, arrival):
    """The list of those who are behind a caller both ways and begin earlier if it arrives then."""
    return [who for who, (word, now, then) in effects(queue, index, arrival).items()
            if word == "behind" and is_less(then, now)]


def gains_of(queue):
    """The ascending list of all (index, arrival, who) such that who gains by a step of the caller."""
    need_queue(queue)
    return [(index, arrival, who) for index in range(len(queue.callers)) for arrival in steps_of(queue, index)
            for who in gainers(queue, index, arrival)]


def has_one_n(queue):
    """Whether all callers have the same n."""
    return all([caller[1] == queue.callers[0][1] for caller in queue.callers])


def need_spaced(queue):
    """A queue that is always open, with all n alike."""
    need_queue(queue)
    need_open(queue)
    if not has_one_n(queue):
        raise NotSo("alike")


def spaced_begin(queue, j, i):
    """What the i-th least arrival tells of the j-th begin in a row."""
    index = queue.tickets()[i]
    arrival, n = queue.callers[index]
    return arrival + n * ((j - i) // queue.desks)


def spaced_begins(queue):
    """The begins in a row, by the arrivals and the one n of all."""
    need_spaced(queue)
    return [max([int(spaced_begin(queue, j, i)) for i in range(j + 1)]) for j in range(len(queue.callers))]


def need_busy(queue):
    """A queue that is always open, with one desk."""
    need_queue(queue)
    need_open(queue)
    if queue.desks != 1:
        raise NotSo("desks")


def busy_from(queue, index):
    """A caller's arrival and the n of all who arrive at or behind it, together."""
    start = queue.callers[index][0]
    return start + sum([n for arrival, n in queue.callers if arrival >= start])


def busy_end(queue):
    """The last end of a single desk, by the arrivals and the n alone."""
    need_busy(queue)
    return max([int(busy_from(queue, index)) for index in range(len(queue.callers))], default=0)
