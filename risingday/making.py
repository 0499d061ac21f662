"""The rules by which moments are made, one class for each kind of rule.

Told values are a dict from things to integers, numbers a dict from moments to minutes. Each rule tells what it asks
for (`asks`), which told numbers, map and hours it uses (`uses`), what it gives of told values and numbers (`gives`),
and which moments make this (`makers`). Where a day is plain its rules are the greatest of maps: `parts` is the list
of the pairs (source, map), a source being a moment or a thing of which the told value counts.
"""
from risingday.never import greater, is_less
from risingday.nth import desk_free, greatest, later_by, nth
from risingday.rising import stay, steady
from risingday.rules import counter_begin, guest_end, meeting_begin, meeting_end, room_begin


def moment_of(key, word):
    """The key of a moment of the errand with this key."""
    return (key[0], key[1], word)


class Arrival:
    """It arrives as the way leads the end ahead, or the leaving, and as much later as the leg takes more."""

    def __init__(self, key, source, leg):
        self._source = source
        self._leg = leg
        self._more = ("leg", key)

    def asks(self):
        return [self._source] if len(self._source) == 3 else []

    def uses(self, told):
        return (told.get(self._source), self._leg)

    def gives(self, told, numbers):
        start = numbers[self._source] if self._source in numbers else told[self._source]
        return later_by(self._leg(start), told[self._more])

    def makers(self, told, numbers):
        return self.asks()

    def parts(self, told):
        return [(self._source, self._leg.later(told[self._more]))]


class StayBegin:
    """An errand that stays begins as it arrives."""

    def __init__(self, key):
        self._arrival = moment_of(key, "arrives")

    def asks(self):
        return [self._arrival]

    def uses(self, told):
        return ()

    def gives(self, told, numbers):
        return numbers[self._arrival]

    def makers(self, told, numbers):
        return self.asks()

    def parts(self, told):
        return [(self._arrival, stay())]


class CounterBegin:
    """At a counter it begins behind the one ahead, as soon as a desk is free and open for it."""

    def __init__(self, key, counter):
        ahead = list(counter.order[:counter.order.index(key)])
        self._arrival = moment_of(key, "arrives")
        self._begins = [moment_of(other, "begins") for other in ahead[-1:]]
        self._ends = [moment_of(other, "ends") for other in ahead] if len(ahead) >= counter.desks else []
        self._desks = counter.desks
        self._hours = counter.hours
        self._n = ("n", key)

    def asks(self):
        return [self._arrival, *self._begins, *self._ends]

    def uses(self, told):
        # Of desks only the number of the end counts at which one is free, where there is one.
        number = len(self._ends) - self._desks + 1 if self._ends else 0
        return (number, self._hours, told[self._n])

    def _begin_ahead(self, numbers):
        return greatest([numbers[begin] for begin in self._begins])

    def _ends_ahead(self, numbers):
        return [numbers[end] for end in self._ends]

    def gives(self, told, numbers):
        return counter_begin(numbers[self._arrival], self._begin_ahead(numbers), self._ends_ahead(numbers),
                             self._desks, self._hours, told[self._n])

    def makers(self, told, numbers):
        free = desk_free(self._ends_ahead(numbers), self._desks)
        latest = greatest([numbers[self._arrival], self._begin_ahead(numbers), free])
        ends = self._ends if free == latest else []
        return [moment for moment in [self._arrival, *self._begins, *ends] if numbers[moment] == latest]

    def parts(self, told):
        gate = self._hours.gate_map(told[self._n])
        return [(moment, gate) for moment in self.asks()]


class MeetingBegin:
    """A meeting begins for all alike, when it is open and as many as the quorum have come."""

    def __init__(self, meeting, people_keys):
        self._arrivals = [moment_of(key, "arrives") for key in people_keys]
        self._quorum = meeting.quorum
        self._opens = ("opens", meeting.name)

    def asks(self):
        return list(self._arrivals)

    def uses(self, told):
        return (told[self._opens], self._quorum)

    def gives(self, told, numbers):
        return meeting_begin(told[self._opens], [numbers[arrival] for arrival in self._arrivals], self._quorum)

    def makers(self, told, numbers):
        last = nth([numbers[arrival] for arrival in self._arrivals], self._quorum)
        if is_less(last, told[self._opens]):
            return []
        return [arrival for arrival in self._arrivals if numbers[arrival] == last]

    def parts(self, told):
        return [(source, stay()) for source in [self._opens, *self._arrivals]]


class RoomBegin:
    """In a room it begins when it has come and the room is turned over behind the one ahead."""

    def __init__(self, key, room):
        place = room.order.index(key)
        self._arrival = moment_of(key, "arrives")
        self._ends = [moment_of(other, "ends") for other in room.order[:place][-1:]]
        self._turn = ("turn", room.name)

    def asks(self):
        return [self._arrival, *self._ends]

    def uses(self, told):
        return (told[self._turn],) if self._ends else ()

    def gives(self, told, numbers):
        turn = told[self._turn] if self._ends else 0
        return room_begin(numbers[self._arrival], greatest([numbers[end] for end in self._ends]), turn)

    def makers(self, told, numbers):
        begin = self.gives(told, numbers)
        arrivals = [self._arrival] if numbers[self._arrival] == begin else []
        return [*arrivals, *[end for end in self._ends if later_by(numbers[end], told[self._turn]) == begin]]

    def parts(self, told):
        return [(self._arrival, stay()), *[(end, steady(told[self._turn])) for end in self._ends]]


class LastingEnd:
    """An errand with an n, but a guest with one behind it, ends so much later than it begins."""

    def __init__(self, key):
        self._begin = moment_of(key, "begins")
        self._n = ("n", key)
        self._more = ("end", key)

    def asks(self):
        return [self._begin]

    def uses(self, told):
        return (told[self._n],)

    def gives(self, told, numbers):
        return later_by(numbers[self._begin], told[self._n] + told[self._more])

    def makers(self, told, numbers):
        return self.asks()

    def parts(self, told):
        return [(self._begin, steady(told[self._n] + told[self._more]))]


class MeetingEnd:
    """A meeting ends for a person behind its length, and not ahead of the person's arrival."""

    def __init__(self, key, meeting):
        self._begin = moment_of(key, "begins")
        self._arrival = moment_of(key, "arrives")
        self._length = ("length", meeting.name)
        self._more = ("end", key)

    def asks(self):
        return [self._begin, self._arrival]

    def uses(self, told):
        return (told[self._length],)

    def gives(self, told, numbers):
        end = meeting_end(numbers[self._begin], told[self._length], numbers[self._arrival])
        return later_by(end, told[self._more])

    def makers(self, told, numbers):
        end = self.gives(told, numbers)
        return [moment for moment, rising in self.parts(told) if rising(numbers[moment]) == end]

    def parts(self, told):
        more = told[self._more]
        return [(self._begin, steady(told[self._length] + more)), (self._arrival, steady(more))]


class GuestEnd:
    """A guest with one behind it leaves early, with its notice, when that one has come; no day with it is plain."""

    def __init__(self, key, behind):
        self._begin = moment_of(key, "begins")
        self._behind = moment_of(behind, "arrives")
        self._n = ("n", key)
        self._notice = ("notice", key)
        self._more = ("end", key)

    def asks(self):
        return [self._begin, self._behind]

    def uses(self, told):
        return (told[self._n], told[self._notice])

    def gives(self, told, numbers):
        return guest_end(numbers[self._begin], told[self._n] + told[self._more], told[self._notice],
                         numbers[self._behind])

    def makers(self, told, numbers):
        end = self.gives(told, numbers)
        begin, behind = numbers[self._begin], numbers[self._behind]
        waited = greater(begin, behind)
        asked = later_by(waited, told[self._notice]) == end
        found = []
        if later_by(begin, told[self._n] + told[self._more]) == end or (asked and begin == waited):
            found.append(self._begin)
        if asked and behind == waited:
            found.append(self._behind)
        return found
