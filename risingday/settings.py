"""Settings of a day: each function here tells which parts of a day a setting changes, and to what.

The parts are told as a dict from their words, those of the parameters of Day.
"""
from risingday.counters import Counter
from risingday.errors import BadKey, BadName, BadPart
from risingday.hours import Hours
from risingday.meetings import Meeting
from risingday.places import Ways, is_pair
from risingday.rooms import Room


def replaced(old, new):
    """The list with the new one in the place of the old one of its name."""
    return [new if one.name == new.name else one for one in old]


def errand_at(day, key, words):
    """The errand with the key, one of these words."""
    errand = day.the_errand(key)
    if errand[0] not in words:
        raise BadKey(key)
    return errand


def set_leaves(day, setting):
    """The people, one of them leaving at another minute."""
    person = day.the_person(setting[1])
    return {"people": replaced(day.persons(), person.leaving_at(setting[2]))}


def people_with(day, key, errand):
    """The people, with another errand for a key."""
    return replaced(day.persons(), day.the_person(key[0]).with_errand(key[1], errand))


def set_n(day, setting):
    """The people, an errand with another n."""
    word, where, _ = errand_at(day, setting[1], ("stay", "counter", "room"))
    return {"people": people_with(day, setting[1], (word, where, setting[2]))}


def set_meeting(day, setting):
    """The meetings, one of them with another opening, length or quorum."""
    word, name, told = setting
    meeting = day.the_meeting(name)
    opens = told if word == "opens" else meeting.opens
    length = told if word == "length" else meeting.length
    quorum = told if word == "quorum" else meeting.quorum
    return {"meetings": replaced(day.all_meetings(), Meeting(name, meeting.place, opens, length, quorum))}


def with_counter(day, counter, desks, hours, order):
    """The counters, one of them told anew."""
    return replaced(day.all_counters(), Counter(counter.name, counter.place, desks, hours, order))


def set_desks(day, setting):
    """The counters, one of them with other desks."""
    counter = day.the_counter(setting[1])
    return {"counters": with_counter(day, counter, setting[2], counter.hours, counter.order)}


def set_hours(day, setting):
    """The counters, one of them with other hours."""
    counter = day.the_counter(setting[1])
    if not isinstance(setting[2], Hours):
        raise BadPart("hours")
    return {"counters": with_counter(day, counter, counter.desks, setting[2], counter.order)}


def with_room(day, room, turn, order, notices):
    """The rooms, one of them told anew."""
    return replaced(day.all_rooms(), Room(room.name, room.place, turn, order, notices))


def set_turn(day, setting):
    """The rooms, one of them with another turn."""
    room = day.the_room(setting[1])
    return {"rooms": with_room(day, room, setting[2], room.order, room.noticed())}


def notices_without(room, key):
    """The notices of a room but that of a key."""
    return {other: notice for other, notice in room.noticed().items() if other != key}


def set_notice(day, setting):
    """The rooms, an errand in one of them with another notice, or with none."""
    key = setting[1]
    room = day.the_room(errand_at(day, key, ("room",))[1])
    notices = notices_without(room, key)
    if setting[2] is not None:
        notices[key] = setting[2]
    return {"rooms": with_room(day, room, room.turn, room.order, notices)}


def set_order(day, setting):
    """The counters or rooms, one of them with another order."""
    name = setting[1]
    for counter in day.all_counters():
        if counter.name == name:
            return {"counters": with_counter(day, counter, counter.desks, counter.hours, setting[2])}
    for room in day.all_rooms():
        if room.name == name:
            return {"rooms": with_room(day, room, room.turn, setting[2], room.noticed())}
    raise BadName(name)


def set_way(day, setting):
    """The ways, one of them with another map, put in or left out."""
    pair = setting[1]
    if not is_pair(pair):
        raise BadPart("pair")
    ways = day.all_ways()
    legs = {told: ways.leg(told[0], told[1]) for told in ways.pairs() if told != pair}
    if setting[2] is not None:
        legs[pair] = setting[2]
    return {"ways": Ways(legs)}


def set_struck(day, setting):
    """The people without an errand, and its order and notices without it."""
    key = setting[1]
    word, name = day.the_errand(key)[:2]
    parts = {"people": people_with(day, key, None)}
    if word == "counter":
        counter = day.the_counter(name)
        order = [other for other in counter.order if other != key]
        parts["counters"] = with_counter(day, counter, counter.desks, counter.hours, order)
    if word == "room":
        room = day.the_room(name)
        order = [other for other in room.order if other != key]
        parts["rooms"] = with_room(day, room, room.turn, order, notices_without(room, key))
    return parts


SETTINGS = {"leaves": set_leaves, "n": set_n, "opens": set_meeting, "length": set_meeting, "quorum": set_meeting,
            "desks": set_desks, "hours": set_hours, "turn": set_turn, "notice": set_notice, "order": set_order,
            "way": set_way, "struck": set_struck}


def is_setting(value):
    """Whether any value has the form of a setting."""
    if not isinstance(value, tuple) or len(value) == 0 or not isinstance(value[0], str):
        return False
    return value[0] in SETTINGS and len(value) == (2 if value[0] == "struck" else 3)


def changed_parts(day, setting):
    """The parts of a day that a setting changes."""
    if not is_setting(setting):
        raise BadPart("setting")
    change = SETTINGS[setting[0]]
    return change(day, setting)
