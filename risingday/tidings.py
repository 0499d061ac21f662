"""Tidings of a day: what is told anew, which moments it reaches, and tidings that keep out of each other's way."""
from risingday.checks import need_count
from risingday.days import changed_by
from risingday.errors import BadPart, BadTiding, DayError
from risingday.kinds import is_between, is_listed, is_whole
from risingday.moments import moments
from risingday.needs import is_barred, need_unbarred, reached
from risingday.never import is_less
from risingday.rising import Rising
from risingday.settings import is_setting

FEWER = "fewer"
MORE = "more"
NUMBERS = {"leaves": MORE, "n": MORE, "opens": MORE, "length": MORE, "quorum": MORE, "turn": MORE, "notice": MORE,
           "desks": FEWER}


def order_named(day, name):
    """The order of the counter or room of a name, [] for any other value."""
    hosts = [host for host in [*day.all_counters(), *day.all_rooms()] if host.name == name]
    return list(hosts[0].order) if hosts else []


def exchanged(day, value):
    """The setting of the order that any value tells as an exchange, None if it is none."""
    if not isinstance(value, tuple) or len(value) != 3 or value[0] != "exchange":
        return None
    _, name, place = value
    order = order_named(day, name)
    if not is_between(place, 0, len(order) - 2):
        return None
    return ("order", name, [*order[:place], order[place + 1], order[place], *order[place + 2:]])


def setting_of(day, value):
    """The setting that any value tells as a tiding, None if it has not the form of one."""
    if not is_setting(value):
        return exchanged(day, value)
    if value[0] == "order":
        return None
    if value[0] == "notice" and not is_whole(value[2]):
        return None
    if value[0] == "way" and not isinstance(value[2], Rising):
        return None
    return value


def is_of_there(day, setting):
    """Whether a setting tells a notice of a guest, if it tells one, and a map for a way that is there."""
    if setting[0] == "notice":
        return day.notice_of(setting[1]) is not None
    return setting[0] != "way" or setting[1] in day.all_ways().pairs()


def behind_any(day, value):
    """The day behind any value as a tiding, None if it is no tiding of the day."""
    setting = setting_of(day, value)
    if setting is None:
        return None
    try:
        told = changed_by(day, setting) if is_of_there(day, setting) else None
    except DayError:
        return None
    return None if told is None or is_barred(told) else told


def need_behind(day, value, index):
    """The day behind a tiding, which has this index among those that are told."""
    told = behind_any(day, value)
    if told is None:
        raise BadTiding(index)
    return told


def is_tiding(day, value):
    """Whether any value is a tiding of the day."""
    need_unbarred(day)
    return behind_any(day, value) is not None


def day_behind(day, tiding):
    """The day behind a tiding."""
    need_unbarred(day)
    return need_behind(day, tiding, 0)


def day_told(day, tidings):
    """The day behind all tidings of a list, one behind the other."""
    need_unbarred(day)
    if not is_listed(tidings):
        raise BadPart("tidings")
    for index, tiding in enumerate(tidings):
        day = need_behind(day, tiding, index)
    return day


def told_before(day, tiding):
    """What the day tells in the place of a number, of hours or of a map that a tiding tells."""
    word, what = tiding[:2]
    if word == "desks":
        return day.the_counter(what).desks
    if word == "hours":
        return day.the_counter(what).hours
    if word == "quorum":
        return day.the_meeting(what).quorum
    if word == "way":
        return day.all_ways().leg(what[0], what[1])
    return day.workings().told[(word, what)]


def is_later(word, old, new):
    """Whether what is told is greater than what was told, or fewer desks, or hours within the former ones."""
    if word == "hours":
        return new <= old
    if word == "way":
        return old <= new
    return new > old if NUMBERS[word] == MORE else new < old


def direction(day, tiding):
    """Whether a tiding changes nothing, tells something later or earlier, or does something else."""
    if day_behind(day, tiding) == day:
        return "same"
    if tiding[0] in ("struck", "exchange"):
        return "other"
    old = told_before(day, tiding)
    if is_later(tiding[0], old, tiding[2]):
        return "later"
    return "earlier" if is_later(tiding[0], tiding[2], old) else "other"


def reached_between(day, told):
    """The dict from the moments that have another value in the day behind, or are none there, to both values.

    A moment that is none there has its value in the day ahead twice.
    """
    numbers = moments(day)
    others = moments(told)
    return {key: (number, others.get(key, number)) for key, number in numbers.items()
            if key not in others or others[key] != number}


def reach(day, tiding):
    """The list of the moments that a tiding reaches, in order."""
    return list(reached_between(day, day_behind(day, tiding)))


def late_between(day, told, minute):
    """The list of the moments that are other in the day behind, and below a minute in one of both days."""
    return [key for key, numbers in reached_between(day, told).items()
            if is_less(numbers[0], minute) or is_less(numbers[1], minute)]


def comes_late(day, tiding, minute):
    """The list of the moments, in order, that a tiding reaches and that are below a minute ahead of it or behind it."""
    told = day_behind(day, tiding)
    need_count(minute)
    return late_between(day, told, minute)


def touched_between(day, told):
    """The list of the moments that have another rule in the day behind, or are none there."""
    ahead = day.workings()
    behind = told.workings()
    return [key for key in ahead.rules if key not in behind.rules or ahead.rule(key) != behind.rule(key)]


def hanging_in(days, touched):
    """The dict of True of touched moments and of those that need one that hangs, in any of several days."""
    steps = {}
    for day in days:
        for key, needing in day.workings().behind.items():
            steps[key] = [*steps.get(key, []), *needing]
    found = reached(steps, touched)
    for key in touched:
        found[key] = True
    return found


def hanging(day, tiding):
    """The list of the moments that hang on a tiding, in order."""
    told = day_behind(day, tiding)
    return list(day.workings().in_order(hanging_in([day, told], touched_between(day, told))))


def are_apart(day, one, other):
    """Whether two tidings can be told in any order, and no moment hangs on both."""
    need_unbarred(day)
    with_one = need_behind(day, one, 0)
    with_other = need_behind(day, other, 1)
    both = behind_any(with_one, other)
    turned = behind_any(with_other, one)
    if both is None or both != turned:
        return False
    days = [day, with_one, with_other, both]
    on_one = hanging_in(days, [*touched_between(day, with_one), *touched_between(with_other, turned)])
    on_other = hanging_in(days, [*touched_between(day, with_other), *touched_between(with_one, both)])
    return not any([key in on_other for key in on_one])
