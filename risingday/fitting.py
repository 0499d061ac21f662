"""Whether the parts of a day fit together; each check raises the error of its kind."""
from risingday.counters import Counter
from risingday.errors import BadKey, BadName, BadOrder, BadPart
from risingday.kinds import is_listed
from risingday.meetings import Meeting
from risingday.people import Person
from risingday.places import Ways
from risingday.rooms import Room

MOST = 6


def is_listed_to_most(values):
    """Whether any value is a list that is not too long for a day."""
    return is_listed(values) and len(values) <= MOST


def need_unlike(names):
    """Names of which none stood ahead."""
    for place, name in enumerate(names):
        if name in names[:place]:
            raise BadName(name)


def need_people(people):
    """A list of people with unlike names."""
    if not is_listed_to_most(people) or not all([isinstance(person, Person) for person in people]):
        raise BadPart("people")
    need_unlike([person.name for person in people])


def need_ways(ways):
    """Ways, or None."""
    if ways is not None and not isinstance(ways, Ways):
        raise BadPart("ways")


def need_hosts(counters, meetings, rooms):
    """Lists of counters, of meetings and of rooms, all of unlike names."""
    if not is_listed_to_most(counters) or not all([isinstance(counter, Counter) for counter in counters]):
        raise BadPart("counters")
    if not is_listed_to_most(meetings) or not all([isinstance(meeting, Meeting) for meeting in meetings]):
        raise BadPart("meetings")
    if not is_listed_to_most(rooms) or not all([isinstance(room, Room) for room in rooms]):
        raise BadPart("rooms")
    need_unlike([host.name for host in [*counters, *meetings, *rooms]])


def errands_told(people):
    """The dict from the keys of all errands, by people and indexes, to the errands."""
    return {key: person.errands[key[1]] for person in people for key in person.own_keys()}


def keys_ahead(people):
    """The dict from the keys of all errands to the key ahead, of the same person, or None."""
    ahead = {}
    for person in people:
        last = None
        for key in person.own_keys():
            ahead[key] = last
            last = key
    return ahead


def places_told(people, ways, hosts):
    """All places, ascending."""
    places = [place for pair in ways.pairs() for place in pair]
    places.extend([person.home for person in people])
    places.extend([host.place for host in hosts])
    places.extend([errand[1] for errand in errands_told(people).values() if errand[0] == "stay"])
    return sorted(set([str(place) for place in places]))


def keys_at(errands, name):
    """The keys of the errands at the counter, meeting or room of this name."""
    return [key for key, errand in errands.items() if errand[0] != "stay" and errand[1] == name]


def need_known(errands, counters, meetings, rooms):
    """Errands at counters, meetings and rooms that are there."""
    names = {"counter": [counter.name for counter in counters], "meet": [meeting.name for meeting in meetings],
             "room": [room.name for room in rooms]}
    for key, errand in errands.items():
        if errand[0] != "stay" and errand[1] not in names[errand[0]]:
            raise BadKey(key)


def need_orders(errands, hosts):
    """Orders of counters and rooms that have just the errands there."""
    for host in hosts:
        if set(host.order) != set(keys_at(errands, host.name)):
            raise BadOrder(host.name)


def need_quorums(errands, meetings):
    """Meetings that have people for their quorums."""
    for meeting in meetings:
        if meeting.quorum > len(keys_at(errands, meeting.name)):
            raise BadPart("quorum")
