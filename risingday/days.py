"""Days, and days changed by a setting."""
from risingday.counters import Counter, is_key
from risingday.errors import BadKey, BadName, BadPart
from risingday.fitting import (MOST, errands_told, keys_ahead, keys_at, need_hosts, need_known, need_orders,
                               need_people, need_quorums, need_ways, places_told)
from risingday.kinds import is_name
from risingday.meetings import Meeting
from risingday.places import Ways
from risingday.rooms import Room
from risingday.settings import changed_parts
from risingday.workings import Workings


class Day:
    """A day: people, ways between places, counters, meetings and rooms."""

    def __init__(self, people=(), ways=None, counters=(), meetings=(), rooms=()):
        need_people(people)
        need_ways(ways)
        need_hosts(counters, meetings, rooms)
        self._people = tuple(people)
        self._ways = Ways() if ways is None else ways
        self._counters = tuple(counters)
        self._meetings = tuple(meetings)
        self._rooms = tuple(rooms)
        self._hosts = {host.name: host for host in [*counters, *meetings, *rooms]}
        self._places = places_told(people, self._ways, [*counters, *meetings, *rooms])
        self._errands = errands_told(people)
        self._ahead = keys_ahead(people)
        self._need_fitting()
        # How the moments come is asked by nearly all that is asked of a day.
        self._workings = Workings(self)

    def _need_fitting(self):
        """All parts together, each of which is right by itself."""
        if len(self._places) > MOST:
            raise BadPart("places")
        need_known(self._errands, self._counters, self._meetings, self._rooms)
        need_orders(self._errands, [*self._counters, *self._rooms])
        need_quorums(self._errands, self._meetings)
        for key in self._errands:
            self.leg_of(key)

    def __eq__(self, other):
        return (isinstance(other, Day) and self._people == other._people and self._ways == other._ways
                and self._counters == other._counters and self._meetings == other._meetings
                and self._rooms == other._rooms)

    def workings(self):
        """The rules of the moments, with what they use; the package alone asks for it."""
        return self._workings

    def persons(self):
        """The list of the people."""
        return list(self._people)

    def all_ways(self):
        """The ways."""
        return self._ways

    def all_counters(self):
        """The list of the counters."""
        return list(self._counters)

    def all_meetings(self):
        """The list of the meetings."""
        return list(self._meetings)

    def all_rooms(self):
        """The list of the rooms."""
        return list(self._rooms)

    def all_places(self):
        """The list of the places, ascending."""
        return list(self._places)

    def the_person(self, name):
        """The person of this name."""
        for person in self._people:
            if person.name == name:
                return person
        raise BadName(name)

    def _host(self, name):
        """The counter, meeting or room of this name, None for any other value."""
        return self._hosts.get(name) if is_name(name) else None

    def the_counter(self, name):
        """The counter of this name."""
        host = self._host(name)
        if not isinstance(host, Counter):
            raise BadName(name)
        return host

    def the_meeting(self, name):
        """The meeting of this name."""
        host = self._host(name)
        if not isinstance(host, Meeting):
            raise BadName(name)
        return host

    def the_room(self, name):
        """The room of this name."""
        host = self._host(name)
        if not isinstance(host, Room):
            raise BadName(name)
        return host

    def all_keys(self):
        """The keys of all errands, by people, then by indexes."""
        return list(self._errands)

    def the_errand(self, key):
        """The errand with this key."""
        if not is_key(key) or key not in self._errands:
            raise BadKey(key)
        return self._errands[key]

    def place_of(self, key):
        """The place of an errand."""
        errand = self.the_errand(key)
        return errand[1] if errand[0] == "stay" else self._hosts[errand[1]].place

    def key_ahead(self, key):
        """The key of the errand ahead, of the same person, or None."""
        self.the_errand(key)
        return self._ahead[key]

    def place_ahead(self, key):
        """The place of the errand ahead, or the home."""
        ahead = self.key_ahead(key)
        return self.the_person(key[0]).home if ahead is None else self.place_of(ahead)

    def leg_of(self, key):
        """The map of the way to an errand."""
        return self._ways.leg(self.place_ahead(key), self.place_of(key))

    def at_same(self, key):
        """The keys at the same counter or room, in its order, or at the same meeting."""
        errand = self.the_errand(key)
        if errand[0] == "stay":
            return []
        return keys_at(self._errands, errand[1]) if errand[0] == "meet" else list(self._hosts[errand[1]].order)

    def next_behind(self, key):
        """The key behind this one in the order of its counter or room, or None."""
        if self.the_errand(key)[0] == "meet":
            return None
        order = self.at_same(key)
        behind = order.index(key) + 1 if key in order else len(order)
        return order[behind] if behind < len(order) else None

    def notice_of(self, key):
        """The notice of an errand, None if it is no guest."""
        word, name = self.the_errand(key)[:2]
        return self._hosts[name].noticed().get(key) if word == "room" else None

    def is_early(self, key):
        """Whether an errand is a guest with one behind it."""
        return self.notice_of(key) is not None and self.next_behind(key) is not None


def need_day(day):
    """A Day."""
    if not isinstance(day, Day):
        raise BadPart("day")


def changed_by(day, setting):
    """The day with this told in the place of what was told before."""
    need_day(day)
    parts = changed_parts(day, setting)
    return Day(parts.get("people", day.persons()), parts.get("ways", day.all_ways()),
               parts.get("counters", day.all_counters()), parts.get("meetings", day.all_meetings()),
               parts.get("rooms", day.all_rooms()))
