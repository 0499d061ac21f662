"""Counters by arrival: queues of callers who stand in the order in which they come."""
from risingday.checks import need_told_minute
from risingday.days import changed_by, need_day
from risingday.errors import BadIndex, BadNumber, BadPart, NotSo
from risingday.hours import Hours
from risingday.kinds import MOST_DESKS, is_between, is_listed, is_told_length, is_told_minute
from risingday.making import moment_of
from risingday.needs import need_unbarred, reached
from risingday.nth import greatest
from risingday.rules import counter_row

MOST_CALLERS = 12


def is_caller(value):
    """Whether any value is a pair of an arrival and an n."""
    return isinstance(value, tuple) and len(value) == 2 and is_told_minute(value[0]) and is_told_length(value[1])


def need_callers(callers):
    """A list of up to twelve callers."""
    if not is_listed(callers) or len(callers) > MOST_CALLERS:
        raise BadPart("callers")
    for index, caller in enumerate(callers):
        if not is_caller(caller):
            raise BadIndex(index)


class Queue:
    """Desks, hours, and callers who come to them."""

    def __init__(self, desks, hours, callers):
        if not is_between(desks, 1, MOST_DESKS):
            raise BadPart("desks")
        if not isinstance(hours, Hours):
            raise BadPart("hours")
        need_callers(callers)
        self.desks = desks
        self.hours = hours
        self.callers = tuple(callers)

    def __eq__(self, other):
        return (isinstance(other, Queue) and self.desks == other.desks and self.hours == other.hours
                and self.callers == other.callers)

    def __len__(self):
        return len(self.callers)

    def tickets(self):
        """The list of the indexes by arrival, of alike arrivals by index."""
        arrivals = sorted(set([int(arrival) for arrival, _ in self.callers]))
        return [index for arrival in arrivals for index, caller in enumerate(self.callers) if caller[0] == arrival]

    def _row_list(self):
        """The list of the (begin, end) of all callers, by index."""
        tickets = self.tickets()
        row = counter_row([self.callers[index][0] for index in tickets], [self.callers[index][1] for index in tickets],
                          self.desks, self.hours)
        return [row[tickets.index(index)] for index in range(len(self.callers))]

    def begin_list(self):
        """The list of the begins, by index."""
        return [begin for begin, _ in self._row_list()]

    def end_list(self):
        """The list of the ends, by index."""
        return [end for _, end in self._row_list()]

    def last_end(self):
        """The greatest end, 0 without callers."""
        return greatest(self.end_list())

    def begins_in_row(self):
        """The list of the begins, ascending, never last."""
        begins = self.begin_list()
        numbers = sorted([int(begin) for begin in begins if begin is not None])
        return [*numbers, *[begin for begin in begins if begin is None]]

    def _with_caller(self, index, caller):
        """The queue with another caller at this index."""
        return Queue(self.desks, self.hours, [*self.callers[:index], caller, *self.callers[index + 1:]])

    def arrived(self, index, arrival):
        """The queue with another arrival."""
        need_index(self, index)
        need_told_minute(arrival)
        return self._with_caller(index, (arrival, self.callers[index][1]))

    def without(self, index):
        """The queue with this caller struck."""
        need_index(self, index)
        return Queue(self.desks, self.hours, [*self.callers[:index], *self.callers[index + 1:]])

    def lasting(self, index, n):
        """The queue with another n."""
        need_index(self, index)
        if not is_told_length(n):
            raise BadNumber(n)
        return self._with_caller(index, (self.callers[index][0], n))


def need_queue(queue):
    """A Queue."""
    if not isinstance(queue, Queue):
        raise BadPart("queue")


def is_index(queue, value):
    """Whether any value is the index of a caller."""
    return is_between(value, 0, len(queue.callers) - 1)


def need_index(queue, index):
    """The index of a caller."""
    if not is_index(queue, index):
        raise BadIndex(index)


def need_open(queue):
    """A queue that is always open."""
    if queue.hours.spans() is not None:
        raise NotSo("open")


def is_before(queue, one, other):
    """Whether a caller is ahead of the other one."""
    need_queue(queue)
    need_index(queue, one)
    need_index(queue, other)
    return (queue.callers[one][0], one) < (queue.callers[other][0], other)


def need_list(queue, order):
    """A list of all indexes, each once."""
    if not is_listed(order) or len(order) != len(queue.callers) or not all([is_index(queue, index) for index in order]):
        raise BadPart("order")
    if len(set(order)) != len(order):
        raise BadPart("order")


def by_list(queue, order):
    """The list of the begins if, of those who wait at a free desk, the first one in the list is next."""
    need_queue(queue)
    need_open(queue)
    need_list(queue, order)
    free = [0 for _ in range(queue.desks)]
    begins = [None for _ in order]
    waiting = list(order)
    while waiting:
        soonest = min([int(minute) for minute in free])
        minute = max(int(soonest), min([int(queue.callers[index][0]) for index in waiting]))
        first = [index for index in waiting if queue.callers[index][0] <= minute][0]
        waiting.remove(first)
        begins[first] = minute
        free[free.index(soonest)] = minute + queue.callers[first][1]
    return begins


def queue_keys(day, name):
    """The keys of the errands at a counter by arrival, in the order of the people, and the queue that they are."""
    need_day(day)
    counter = day.the_counter(name)
    need_unbarred(day)
    workings = day.workings()
    numbers = workings.worked(workings.told, workings.row)
    keys = [key for key in day.all_keys() if key in counter.order]
    for key in keys:
        arrival = moment_of(key, "arrives")
        under = reached(workings.needs, [arrival])
        if not is_told_minute(numbers[arrival]) or any([moment_of(other, "begins") in under for other in keys]):
            raise NotSo("arrival")
    callers = [(numbers[moment_of(key, "arrives")], day.the_errand(key)[2]) for key in keys]
    return (keys, Queue(counter.desks, counter.hours, callers))


def queue_of(day, name):
    """The queue of a counter by arrival."""
    return queue_keys(day, name)[1]


def ticket_day(day, name):
    """The day with the tickets as the order of a counter by arrival."""
    keys, queue = queue_keys(day, name)
    return changed_by(day, ("order", name, [keys[index] for index in queue.tickets()]))
