"""What happens minute by minute, and where people are."""
from risingday.checks import need_count
from risingday.errors import BadPart
from risingday.keys import is_moment_key
from risingday.kinds import is_whole
from risingday.making import moment_of
from risingday.needs import need_unbarred
from risingday.never import is_less
from risingday.playing import played


def happenings(day):
    """The list of all that happens, as (minute, key), in the order in which it does."""
    need_unbarred(day)
    return played(day)


def is_happening(day, value):
    """Whether any value has the form of something that happens."""
    return isinstance(value, tuple) and len(value) == 2 and is_whole(value[0]) and is_moment_key(day, value[1])


def is_happenings(day, value):
    """Whether any value is the list of all that happens."""
    need_unbarred(day)
    return isinstance(value, list) and all([is_happening(day, item) for item in value]) and value == played(day)


def minutes_played(day):
    """The dict from the moments that happen to their minutes."""
    return {key: minute for minute, key in played(day)}


def moments_by_play(day):
    """The dict from all moments, in order, to the minutes at which they happen."""
    need_unbarred(day)
    found = minutes_played(day)
    return {key: found.get(key) for key in day.workings().rules}


def never_ones(day):
    """The list of the moments that never happen, in order."""
    return [key for key, minute in moments_by_play(day).items() if minute is None]


def last_minute(day):
    """The greatest minute at which something happens, None without any."""
    need_unbarred(day)
    row = played(day)
    return row[-1][0] if row else None


def has_happened(found, key, word, minute):
    """Whether a moment has happened, behind all that happens at a minute."""
    return not is_less(minute, found.get(moment_of(key, word)))


def state_in(day, found, person, minute):
    """How a person is told, behind all that happens at a minute; found are the minutes of all that happens."""
    keys = person.own_keys()
    if not keys or minute < person.leaves:
        return ("home",)
    for key in keys:
        if not has_happened(found, key, "arrives", minute):
            return ("way", day.place_ahead(key), day.place_of(key))
        if not has_happened(found, key, "begins", minute):
            return ("waits", key)
        if not has_happened(found, key, "ends", minute):
            return ("busy", key)
    return ("done", day.place_of(keys[-1]))


def place_in(day, person, state):
    """The place at which a person is who is told so, None on a way."""
    if state[0] == "home":
        return person.home
    if state[0] == "way":
        return None
    return state[1] if state[0] == "done" else day.place_of(state[1])


def need_person(day, name):
    """The person of this name."""
    need_unbarred(day)
    return day.the_person(name)


def state_of(day, name, minute):
    """Where a person is, and at what, behind all that happens at a minute."""
    person = need_person(day, name)
    need_count(minute)
    return state_in(day, minutes_played(day), person, minute)


def there(day, place, minute):
    """The list of the names of those who are at a place, behind all that happens at a minute."""
    need_unbarred(day)
    if place not in day.all_places():
        raise BadPart("place")
    need_count(minute)
    found = minutes_played(day)
    return [person.name for person in day.persons()
            if place_in(day, person, state_in(day, found, person, minute)) == place]


def keys_of_host(day, name):
    """The keys of the errands at a counter or a room, in its order, or at a meeting, in that of the day."""
    need_unbarred(day)
    for host in [*day.all_counters(), *day.all_rooms()]:
        if host.name == name:
            return list(host.order)
    day.the_meeting(name)
    return [key for key in day.all_keys() if day.the_errand(key) == ("meet", name)]


def waiting_in(found, keys, minute):
    """Those of several errands that have arrived and not begun."""
    return [key for key in keys if has_happened(found, key, "arrives", minute)
            and not has_happened(found, key, "begins", minute)]


def waiting_at(day, name, minute):
    """The list of the errands that wait at a counter, a room or a meeting, behind all that happens at a minute."""
    keys = keys_of_host(day, name)
    need_count(minute)
    return waiting_in(minutes_played(day), keys, minute)


def served_at(day, name, minute):
    """The list of the errands that have arrived and begun there and not ended, behind all that happens at a minute."""
    keys = keys_of_host(day, name)
    need_count(minute)
    found = minutes_played(day)
    return [key for key in keys if has_happened(found, key, "arrives", minute)
            and has_happened(found, key, "begins", minute) and not has_happened(found, key, "ends", minute)]


def longest_wait_row(day, name):
    """The greatest number of those who wait at one time, and the least minute at which so many do."""
    keys = keys_of_host(day, name)
    row = played(day)
    found = {key: minute for minute, key in row}
    best = (0, 0)
    # Nobody comes to wait but as something happens.
    for minute, _ in row:
        many = len(waiting_in(found, keys, minute))
        if many > best[0]:
            best = (many, minute)
    return best
