"""The worst of a few late things, and layers that are never below it."""
from itertools import combinations

from risingday.bearing import comes_late, need_target, row_under
from risingday.errors import BadIndex, BadNumber, BadPart, TooMany
from risingday.keys import need_moment_key
from risingday.kinds import LONGEST, is_between, is_listed
from risingday.needs import need_unbarred
from risingday.never import greater, is_less
from risingday.things import is_thing, told_late

MOST_ITEMS = 10
MOST_LATE_AT_ONCE = 3


def is_late_item(day, value):
    """Whether any value is a thing that can be late by itself, with its extra."""
    if not isinstance(value, tuple) or len(value) != 2 or not is_thing(day, value[0]):
        return False
    return value[0][0] in ("leaves", "leg", "end") and is_between(value[1], 1, LONGEST)


def need_late(day, late):
    """A list of late things, of a day that is not barred."""
    need_unbarred(day)
    if not is_listed(late):
        raise BadPart("late")
    things = []
    for index, item in enumerate(late):
        if not is_late_item(day, item) or item[0] in things:
            raise BadIndex(index)
        things.append(item[0])
    if len(late) > MOST_ITEMS:
        raise TooMany(MOST_ITEMS)


def need_most(most):
    """How many things are late at once."""
    if not is_between(most, 0, MOST_LATE_AT_ONCE):
        raise BadNumber(most)


def lots_of(late, most):
    """The list of the lots of at most so many indexes, by size, then ascending."""
    return [lot for size in range(most + 1) for lot in combinations(range(len(late)), size)]


def lateness_of(late, lot):
    """The lateness that a lot makes."""
    return {late[index][0]: late[index][1] for index in lot}


def worst(day, late, most):
    """The dict from all moments, in order, to the greatest that lots make of them."""
    need_late(day, late)
    need_most(most)
    workings = day.workings()
    found = {key: 0 for key in workings.rules}
    for lot in lots_of(late, most):
        numbers = workings.worked(told_late(workings.told, lateness_of(late, lot)), workings.row)
        found = {key: greater(number, numbers[key]) for key, number in found.items()}
    return found


def first_worst(workings, late, key, most):
    """The first lot that makes a moment its worst, and this one."""
    row = row_under(workings, key)
    found = ((), comes_late(workings, row, {}))
    for lot in lots_of(late, most):
        number = comes_late(workings, row, lateness_of(late, lot))
        if is_less(found[1], number):
            found = (lot, number)
    return found


def worst_lot(day, late, key, most):
    """The first lot, by size, then ascending, that makes a moment its worst, and this one."""
    need_late(day, late)
    need_moment_key(day, key)
    need_most(most)
    return first_worst(day.workings(), late, key, most)


class LayerRules:
    """What the rules of layers give: there the late leavings are late at once, legs and ends by one layer each."""

    def __init__(self, workings, late):
        leavings = {thing: extra for thing, extra in late if thing[0] == "leaves"}
        delays = {thing: extra for thing, extra in late if thing[0] != "leaves"}
        self._workings = workings
        self._delays = delays
        self._alone = (workings.told, told_late(workings.told, leavings))
        self._delayed = (told_late(self._alone[0], delays), told_late(self._alone[1], delays))

    def _is_delayed(self, key):
        """Whether a moment has a late leg, or a late end."""
        if key[2] == "begins":
            return False
        return ("leg" if key[2] == "arrives" else "end", key[:2]) in self._delays

    def given(self, key, layer, ahead, table, absent):
        """What the rule of a layer gives of the table of the layer ahead and of its own one."""
        number = self._workings.given(key, self._alone[min(layer, 1)], table, absent)
        if layer == 0 or not self._is_delayed(key):
            return number
        return greater(number, self._workings.given(key, self._delayed[min(layer - 1, 1)], ahead, absent))


def layer_tables(workings, late, most):
    """The list of the dicts of the layers, each in order."""
    rules = LayerRules(workings, late)
    tables = []
    ahead = {}
    for layer in range(most + 1):
        numbers = {}
        for key in workings.row:
            numbers[key] = rules.given(key, layer, ahead, numbers, 0)
        tables.append(workings.in_order(numbers))
        ahead = numbers
    return tables


def layers(day, late, most):
    """The tuple of the dicts of layers 0 to most."""
    need_late(day, late)
    need_most(most)
    return tuple(layer_tables(day.workings(), late, most))


def is_promise(day, late, key, minute, most):
    """Whether the worst of a moment is at most the minute."""
    need_late(day, late)
    need_target(day, key, minute)
    need_most(most)
    return not is_less(minute, first_worst(day.workings(), late, key, most)[1])


def bearable(day, late, key, minute):
    """The greatest number of late things with which the promise holds, from 0 to 3, or None."""
    need_late(day, late)
    need_target(day, key, minute)
    held = [most for most in range(MOST_LATE_AT_ONCE + 1)
            if not is_less(minute, first_worst(day.workings(), late, key, most)[1])]
    return held[-1] if held else None
