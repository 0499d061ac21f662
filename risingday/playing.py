"""Days that are played minute by minute, by what has happened alone.

What has happened is a dict from moments to minutes. Each of the functions below tells at which minute, from now on, a
moment can happen if nothing else happens ahead of it; never, if something else has to happen first.
"""
from risingday.making import moment_of
from risingday.never import lesser, minutes_more


def soonest_arrival(day, key, happened):
    """Where the way leads the end of the errand ahead, or the leaving."""
    ahead = day.key_ahead(key)
    start = day.the_person(key[0]).leaves if ahead is None else happened.get(moment_of(ahead, "ends"))
    leg = day.leg_of(key)
    return leg(start)


def soonest_meeting(day, key, happened, now):
    """As soon as it is open and as many as the quorum have come."""
    meeting = day.the_meeting(day.the_errand(key)[1])
    here = [other for other in day.at_same(key) if moment_of(other, "arrives") in happened]
    return None if len(here) < meeting.quorum else max(int(now), meeting.opens)


def soonest_at_desk(day, key, happened, now):
    """As soon as all that stand ahead have begun, a desk is free and the counter is open for it."""
    _, name, n = day.the_errand(key)
    counter = day.the_counter(name)
    ahead = counter.order[:counter.order.index(key)]
    begun = [other for other in ahead if moment_of(other, "begins") in happened]
    busy = [other for other in begun if moment_of(other, "ends") not in happened]
    if len(begun) < len(ahead) or len(busy) >= counter.desks:
        return None
    return counter.hours.gate(n, now)


def soonest_in_room(day, key, happened, now):
    """As soon as the one ahead has ended, the turn or longer ago."""
    room = day.the_room(day.the_errand(key)[1])
    place = room.order.index(key)
    if place == 0:
        return now
    ended = happened.get(moment_of(room.order[place - 1], "ends"))
    return None if ended is None else max(int(now), ended + room.turn)


def soonest_begin(day, key, happened, now):
    """An errand begins when it has arrived and is let; a meeting also for those who are not there yet."""
    word = day.the_errand(key)[0]
    if word == "meet":
        return soonest_meeting(day, key, happened, now)
    if moment_of(key, "arrives") not in happened:
        return None
    if word == "counter":
        return soonest_at_desk(day, key, happened, now)
    return soonest_in_room(day, key, happened, now) if word == "room" else now


def soonest_end(day, key, happened, now):
    """An errand ends behind its n, a guest perhaps sooner; a meeting behind its length, for those who are there."""
    errand = day.the_errand(key)
    begun = happened.get(moment_of(key, "begins"))
    if begun is None:
        return None
    if errand[0] == "meet":
        there = moment_of(key, "arrives") in happened
        return max(int(now), begun + day.the_meeting(errand[1]).length) if there else None
    waiting = happened.get(moment_of(day.next_behind(key), "arrives")) if day.is_early(key) else None
    asked = None if waiting is None else max(int(begun), waiting)
    return lesser(begun + errand[2], minutes_more(asked, day.notice_of(key)))


def soonest(day, moment, happened, now):
    """At which minute a moment can happen, by what has happened."""
    key = moment[:2]
    if moment[2] == "arrives":
        return soonest_arrival(day, key, happened)
    if moment[2] == "begins":
        return soonest_begin(day, key, happened, now)
    return soonest_end(day, key, happened, now)


def played(day):
    """The list of all that happens, as (minute, moment), in the order in which it does."""
    workings = day.workings()
    happened = {}
    coming = {key: soonest(day, key, happened, 0) for key in workings.rules}
    row = []
    while len([key for key, minute in coming.items() if minute is not None]) > 0:
        now = min([int(minute) for minute in coming.values() if minute is not None])
        moment = [key for key, minute in coming.items() if minute == now][0]
        row.append((now, moment))
        happened[moment] = now
        coming[moment] = None
        # Nothing but what needs this moment is let or put off by it.
        for other in workings.behind[moment]:
            if other not in happened:
                coming[other] = soonest(day, other, happened, now)
    return row
