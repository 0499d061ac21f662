"""Counters, and the keys that stand in an order."""
from risingday.checks import need_desks, need_name_and_place
from risingday.errors import BadPart
from risingday.hours import Hours
from risingday.kinds import is_between, is_listed, is_name


def is_key(value):
    """Whether any value has the form of the key of an errand."""
    return isinstance(value, tuple) and len(value) == 2 and is_name(value[0]) and is_between(value[1], 0, 4)


def is_order(value):
    """Whether any value is a list or tuple of unlike keys."""
    if not is_listed(value) or not all([is_key(key) for key in value]):
        return False
    return len(set(value)) == len(value)


class Counter:
    """A counter with desks, hours and an order of errands."""

    def __init__(self, name, place, desks=1, hours=None, order=()):
        need_name_and_place(name, place, "place")
        need_desks(desks)
        if hours is not None and not isinstance(hours, Hours):
            raise BadPart("hours")
        if not is_order(order):
            raise BadPart("order")
        self.name = name
        self.place = place
        self.desks = desks
        self.hours = Hours() if hours is None else hours
        self.order = tuple(order)

    def __eq__(self, other):
        return (isinstance(other, Counter) and self.name == other.name and self.place == other.place
                and self.desks == other.desks and self.hours == other.hours and self.order == other.order)
