"""Papers for all minutes of leaving: tables of rows, and leaves that tell two days apart."""
from risingday.alike import difference, names_told, need_comparable
from risingday.errors import DayError
from risingday.keys import is_moment_key
from risingday.kinds import is_count_or_never, is_told_minute
from risingday.rising import Rising
from risingday.summaries import need_plain
from risingday.sumrows import are_alike, is_at_least, rows_told, rule_row

UPPER = None
LOWER = 0


def table_of(day):
    """The right table of the told rows."""
    need_plain(day)
    table = {}
    for key, row in rows_told(day.workings()).items():
        number, maps = row
        table[key] = (number, {name: maps[name].rows for name in names_told(day) if name in maps})
    return table


def map_told(value):
    """The map that any value tells as its rows, None if it does not."""
    try:
        rising = Rising(value)
    except DayError:
        return None
    return rising if rising.rows == value else None


def row_read(names, value):
    """The row that any value of a table tells, None if it is none."""
    if not isinstance(value, tuple) or len(value) != 2:
        return None
    number, told = value
    if not is_count_or_never(number) or not isinstance(told, dict):
        return None
    maps = {}
    for name, rows in told.items():
        rising = map_told(rows)
        if name not in names or rising is None:
            return None
        maps[name] = rising
    return (number, maps)


def rows_read(day, table):
    """The dict from moments to the rows that any value tells as a table, None if it is none."""
    if not isinstance(table, dict):
        return None
    rows = {}
    for key, value in table.items():
        row = row_read(names_told(day), value)
        if not is_moment_key(day, key) or row is None:
            return None
        rows[key] = row
    return rows


def is_right(day, table):
    """Whether any value is a table of just the moments of the day, with rows that keep all rules."""
    need_plain(day)
    rows = rows_read(day, table)
    workings = day.workings()
    if rows is None or len(rows) != len(workings.rules):
        return False
    return all([are_alike(row, rule_row(workings, key, rows, None)) for key, row in rows.items()])


def is_upper(day, table):
    """Whether any value is a table of rows each of which is at least what its rule gives."""
    need_plain(day)
    rows = rows_read(day, table)
    if rows is None:
        return False
    return all([is_at_least(row, rule_row(day.workings(), key, rows, UPPER)) for key, row in rows.items()])


def is_lower(day, table):
    """Whether any value is a table of rows each of which is at most what its rule gives."""
    need_plain(day)
    rows = rows_read(day, table)
    if rows is None:
        return False
    return all([is_at_least(rule_row(day.workings(), key, rows, LOWER), row) for key, row in rows.items()])


def apart_paper(one, other):
    """A moment and leaves for which it is another one in both days, None if they are alike."""
    return difference(one, other)


def moment_for(day, key, leaves):
    """What a moment is if people leave at other minutes."""
    workings = day.workings()
    told = {thing: leaves[thing[1]] if thing[0] == "leaves" else number for thing, number in workings.told.items()}
    return workings.worked(told, workings.row)[key]


def are_leaves(value, names):
    """Whether any value is a dict from just these names to told minutes."""
    if not isinstance(value, dict) or len(value) != len(names) or not all([name in value for name in names]):
        return False
    return all([is_told_minute(minute) for minute in value.values()])


def accepts_apart(one, other, paper):
    """Whether any value is a moment and leaves for which it is another one in both days."""
    need_comparable(one, other)
    if not isinstance(paper, tuple) or len(paper) != 2:
        return False
    key, leaves = paper
    if not is_moment_key(one, key) or not are_leaves(leaves, names_told(one)):
        return False
    return moment_for(one, key, leaves) != moment_for(other, key, leaves)
