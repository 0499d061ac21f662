"""Easings of a day: menus of them, and the day with some of them.

Easings of one thing add up: a thing is told by the easing without its minutes, as a tuple.
"""
from risingday.days import changed_by
from risingday.errors import BadKey, BadMenu, BadName, BadPart
from risingday.kinds import LONGEST, MOST_DESKS, is_between, is_listed
from risingday.never import is_less

MOST_ITEMS = 8
PARTS = {"desk": 2, "quorum": 2, "notice": 3, "less": 3, "longer": 4}


def n_of(day, key):
    """The n of an errand, None if it has none."""
    errand = day.the_errand(key)
    return errand[2] if len(errand) == 3 else None


def room_for(day, thing):
    """By how much a thing can be eased at most; None for what cannot be eased at all."""
    word, what = thing[:2]
    if word == "desk":
        return MOST_DESKS - day.the_counter(what).desks
    if word == "quorum":
        return day.the_meeting(what).quorum - 1
    if word == "notice":
        return day.notice_of(what)
    if word == "less":
        return n_of(day, what)
    spans = day.the_counter(what).hours.spans()
    # A span may get as much longer as a menu can tell.
    return None if spans is None or not is_between(thing[2], 0, len(spans) - 1) else MOST_ITEMS * LONGEST


def has_form(value):
    """Whether any value has the form of an easing."""
    if not isinstance(value, tuple) or len(value) < 2 or not isinstance(value[0], str):
        return False
    if PARTS.get(value[0]) != len(value):
        return False
    return len(value) == 2 or is_between(value[-1], 1, LONGEST)


def thing_of(easing):
    """The thing that an easing eases."""
    return easing if len(easing) == 2 else easing[:-1]


def minutes_of(easing):
    """By how much an easing eases its thing."""
    return 1 if len(easing) == 2 else easing[-1]


def is_easing(day, value, before):
    """Whether any value is an easing that is let with those that stand ahead in the menu."""
    if not has_form(value):
        return False
    thing = thing_of(value)
    try:
        room = room_for(day, thing)
    except (BadName, BadKey):
        return False
    eased = sum([minutes_of(other) for other in before if thing_of(other) == thing])
    return room is not None and not is_less(room, eased + minutes_of(value))


def need_menu(day, menu):
    """A list of one to eight easings, all of which are let together."""
    if not is_listed(menu) or not 1 <= len(menu) <= MOST_ITEMS:
        raise BadPart("menu")
    for index, value in enumerate(menu):
        if not is_easing(day, value, menu[:index]):
            raise BadMenu(index)


def hours_eased(day, name, totals):
    """The hours of a counter, all of its spans longer at once."""
    hours = day.the_counter(name).hours
    # From the last span on: so no span has another index when its turn comes.
    for index in reversed(range(len(hours.spans()))):
        hours = hours.longer(index, totals.get(("longer", name, index), 0))
    return hours


def setting_eased(day, thing, totals):
    """The setting that eases a thing."""
    word, what = thing[:2]
    if word == "desk":
        return ("desks", what, day.the_counter(what).desks + totals[thing])
    if word == "quorum":
        return ("quorum", what, day.the_meeting(what).quorum - totals[thing])
    if word == "notice":
        return ("notice", what, day.notice_of(what) - totals[thing])
    if word == "less":
        return ("n", what, n_of(day, what) - totals[thing])
    return ("hours", what, hours_eased(day, what, totals))


def day_eased(day, menu, picks):
    """The day with some easings of a right menu."""
    totals = {}
    for index in picks:
        thing = thing_of(menu[index])
        totals[thing] = totals.get(thing, 0) + minutes_of(menu[index])
    eased = day
    for thing in totals:
        eased = changed_by(eased, setting_eased(day, thing, totals))
    return eased
