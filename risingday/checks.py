"""Checks that several files ask for; each raises the error of its kind."""
from risingday.errors import BadName, BadNumber, BadPart
from risingday.kinds import MOST_DESKS, is_between, is_count, is_count_or_never, is_listed, is_name, is_told_minute


def need_count(number):
    """An integer of 0 or more."""
    if not is_count(number):
        raise BadNumber(number)


def need_minute(number):
    """An integer of 0 or more, or never."""
    if not is_count_or_never(number):
        raise BadNumber(number)


def need_told_minute(number):
    """An integer that may be told as a minute."""
    if not is_told_minute(number):
        raise BadNumber(number)


def need_minutes(part, minutes):
    """A list of integers of 0 or more, or never."""
    if not is_listed(minutes) or not all([is_count_or_never(minute) for minute in minutes]):
        raise BadPart(part)


def need_name_and_place(name, place, part):
    """Two names, of something and of its place; the part is the word for the place."""
    if not is_name(name):
        raise BadName(name)
    if not is_name(place):
        raise BadPart(part)


def need_desks(desks):
    """A number of desks."""
    if not is_between(desks, 1, MOST_DESKS):
        raise BadNumber(desks)
