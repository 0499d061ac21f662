"""Plain days as tables of maps, for all minutes of leaving."""
from risingday.checks import need_count, need_told_minute
from risingday.errors import BadName, BadPart, NotSo
from risingday.keys import need_moment_key
from risingday.kinds import LAST_MINUTE, is_name
from risingday.moments import is_plain
from risingday.needs import need_unbarred
from risingday.never import is_less, lesser
from risingday.nth import greatest
from risingday.sumrows import base_at, line_over, rows_told, told_lines, value_for


def need_plain(day):
    """A plain Day that is not barred."""
    need_unbarred(day)
    if not is_plain(day):
        raise NotSo("summary")


def latest_with(number, maps, limit):
    """The greatest told minute that all of the maps lead to at most a limit, if a number is so, too; or None."""
    if is_less(limit, number):
        return None
    minute = LAST_MINUTE
    for rising in maps:
        back = rising.back(limit)
        if back is None:
            return None
        minute = lesser(minute, back)
    return minute


def need_leaves(leaves, names):
    """A dict from just these names to told minutes."""
    if not isinstance(leaves, dict) or len(leaves) != len(names) or not all([name in leaves for name in names]):
        raise BadPart("leaves")
    for name in names:
        need_told_minute(leaves[name])


class Summary:
    """A plain day as a table: for each moment a number, and maps for some of the people."""

    def __init__(self, day):
        need_plain(day)
        self._day = day
        self._leaves = {person.name: person.leaves for person in day.persons()}
        self._rows = rows_told(day.workings())
        self._names = {name: True for name in self._leaves}
        self._lines = {key: told_lines(row) for key, row in self._rows.items()}

    def __eq__(self, other):
        return isinstance(other, Summary) and self._names == other._names and self._lines == other._lines

    def _row(self, key):
        """The row of a moment."""
        need_moment_key(self._day, key)
        return self._rows[key]

    def _need_name(self, name):
        """The name of a person."""
        if not is_name(name) or name not in self._names:
            raise BadName(name)

    def moment_keys(self):
        """The list of the moments, in order."""
        return list(self._rows)

    def number_of(self, key):
        """The number of the told row of a moment."""
        return self._row(key)[0]

    def names_of(self, key):
        """The list of the people that the told row of a moment has maps of, in the order of the day."""
        maps = self._row(key)[1]
        return [name for name in self._names if name in maps]

    def map_of(self, key, name):
        """The map of a person in the told row of a moment, or None."""
        maps = self._row(key)[1]
        self._need_name(name)
        return maps.get(name)

    def base_of(self, key, *, least=0):
        """What a moment is with everybody leaving at a minute."""
        row = self._row(key)
        need_told_minute(least)
        return base_at(row, least)

    def line_of(self, key, name, *, least=0):
        """What a moment is for each minute of leaving of a person, others leaving at one; None if it is never."""
        row = self._row(key)
        self._need_name(name)
        need_told_minute(least)
        return line_over(base_at(row, least), row[1].get(name))

    def given(self, leaves):
        """The dict of all moments, in order, by the minutes at which people leave."""
        need_leaves(leaves, self._names)
        return {key: value_for(row, leaves) for key, row in self._rows.items()}

    def does_count(self, key, name):
        """Whether a moment is another one for another minute of leaving of a person, for some leaves."""
        self._row(key)
        self._need_name(name)
        return name in self._lines[key][1]

    def free_minute(self, key, name):
        """The greatest minute at which a person can leave, others leaving at 0, with the moment at its base."""
        if not self.does_count(key, name):
            return LAST_MINUTE
        row = self._rows[key]
        return latest_with(0, [row[1][name]], base_at(row, 0))

    def latest(self, key, name, limit):
        """The greatest minute at which a person can leave, others as told, with the moment at most at a limit."""
        number, maps = self._row(key)
        self._need_name(name)
        need_count(limit)
        others = [rising(self._leaves[other]) for other, rising in maps.items() if other != name]
        return latest_with(greatest([number, *others]), [maps[name]] if name in maps else [], limit)

    def latest_of_all(self, key, limit):
        """The greatest minute at which all can leave at once with the moment at most at a limit."""
        number, maps = self._row(key)
        need_count(limit)
        return latest_with(number, list(maps.values()), limit)
