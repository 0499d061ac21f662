"""Rising maps: what leads a minute to a later one, or to never, and never falls."""
from risingday.checks import need_count, need_minute
from risingday.errors import BadIndex, BadNumber, BadPart
from risingday.kinds import is_between, is_listed
from risingday.never import lesser, minutes_more
from risingday.rows import first_over, first_wrong, greatest_up_to, nth_rows, rows_followed, told_rows, value_at


class Rising:
    """A map, told by rows (start, value, grows)."""

    def __init__(self, rows):
        if not is_listed(rows) or len(rows) == 0:
            raise BadPart("rows")
        wrong = first_wrong(rows)
        if wrong is not None:
            raise BadIndex(wrong)
        self.rows = told_rows(rows)

    def __call__(self, minute):
        need_minute(minute)
        return value_at(self.rows, minute)

    def __len__(self):
        return len(self.rows)

    def __eq__(self, other):
        return isinstance(other, Rising) and self.rows == other.rows

    def __le__(self, other):
        return isinstance(other, Rising) and first_over(self.rows, other.rows) is None

    def __rshift__(self, other):
        if not isinstance(other, Rising):
            raise TypeError("only a map can follow a map")
        return Rising(rows_followed(self.rows, other.rows))

    def __or__(self, other):
        if not isinstance(other, Rising):
            raise TypeError("the greater of two is told of maps alone")
        return Rising(nth_rows([self.rows, other.rows], 2))

    def __and__(self, other):
        if not isinstance(other, Rising):
            raise TypeError("the lesser of two is told of maps alone")
        return Rising(nth_rows([self.rows, other.rows], 1))

    def back(self, minute):
        """The greatest minute that is led to at most this one, or None."""
        need_count(minute)
        return greatest_up_to(self.rows, minute)

    def last(self):
        """The greatest minute that is not led to never; None without it."""
        start, value, _ = self.rows[-1]
        return start - 1 if value is None and start > 0 else None

    def later(self, minutes):
        """The map that gives so much later."""
        need_count(minutes)
        return Rising([(start, minutes_more(value, minutes), grows) for start, value, grows in self.rows])


def stay():
    """The map that leads each minute to itself."""
    return steady(0)


def steady(minutes):
    """The map that leads each minute to so many minutes later."""
    need_count(minutes)
    return Rising([(0, minutes, True)])


def since(minute):
    """The map that leads to the greater one of each minute and this one."""
    need_count(minute)
    return Rising([(0, minute, False), (minute + 1, minute + 1, True)])


def until(minute):
    """The map that leads each minute up to this one to itself, later ones to never."""
    need_count(minute)
    return Rising([(0, 0, True), (minute + 1, None, False)])


def nowhere():
    """The map that leads each minute to never."""
    return Rising([(0, None, False)])


def need_maps(maps):
    """A list of one or more maps."""
    if not is_listed(maps) or len(maps) == 0 or not all([isinstance(rising, Rising) for rising in maps]):
        raise BadPart("maps")


def greatest_of(maps):
    """The map that gives the greatest of what the maps give."""
    need_maps(maps)
    found = maps[0]
    for rising in maps[1:]:
        found = found | rising
    return found


def least_of(maps):
    """The map that gives the least of what the maps give."""
    need_maps(maps)
    found = maps[0]
    for rising in maps[1:]:
        found = found & rising
    return found


def nth_of(maps, number):
    """The map that gives the n-th least of what the maps give, from 1."""
    need_maps(maps)
    if not is_between(number, 1, len(maps)):
        raise BadNumber(number)
    return Rising(nth_rows([rising.rows for rising in maps], number))


def first_unlike(one, other):
    """The least minute for which two maps give other things, or None."""
    need_maps([one, other])
    return lesser(first_over(one.rows, other.rows), first_over(other.rows, one.rows))


def first_above(one, other):
    """The least minute for which one map gives more than the other, or None."""
    need_maps([one, other])
    return first_over(one.rows, other.rows)
