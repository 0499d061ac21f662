"""Rows of moments: pairs of a number and a dict from names of people to maps of the minutes at which they leave."""
from risingday.kinds import LAST_MINUTE
from risingday.never import greater, is_less
from risingday.nth import greatest
from risingday.rising import first_unlike, since, stay, until


def followed(row, rising):
    """The row behind a map."""
    number, maps = row
    return (rising(number), {name: one >> rising for name, one in maps.items()})


def greater_row(one, other):
    """The greater one of two rows."""
    maps = {name: rising for name, rising in one[1].items()}
    for name, rising in other[1].items():
        maps[name] = maps[name] | rising if name in maps else rising
    return (greater(one[0], other[0]), maps)


def row_of_thing(told, thing):
    """The row of a leaving, or that of an opening, which is a number alone."""
    return (0, {thing[1]: stay()}) if thing[0] == "leaves" else (told[thing], {})


def rule_row(workings, key, rows, absent):
    """The row that the rule of a moment gives; of moments that have no row the number absent is taken."""
    row = (0, {})
    for source, rising in workings.rules[key].parts(workings.told):
        if source in workings.rules:
            ahead = rows.get(source, (absent, {}))
        else:
            ahead = row_of_thing(workings.told, source)
        row = greater_row(row, followed(ahead, rising))
    return row


def rows_told(workings):
    """The dict from all moments, in order, to their told rows."""
    rows = {}
    for key in workings.row:
        rows[key] = rule_row(workings, key, rows, None)
    return workings.in_order(rows)


def value_for(row, leaves):
    """What a row gives for the minutes at which people leave."""
    number, maps = row
    return greatest([number, *[rising(leaves[name]) for name, rising in maps.items()]])


def base_at(row, minute):
    """What a row gives with everybody leaving at a minute."""
    return value_for(row, {name: minute for name in row[1]})


def line_over(base, rising):
    """The greater one of a base and of a map, or of a base alone and each minute."""
    if base is None:
        return None
    return since(base) if rising is None else since(base) | rising


def counting(row, base):
    """The dict of the maps of those for whom the row is above its base at some told minute."""
    return {name: rising for name, rising in row[1].items() if is_less(base, rising(LAST_MINUTE))}


def told_line(base, rising):
    """The line of one who counts, for told minutes alone: what comes behind them does not count."""
    return until(LAST_MINUTE) >> line_over(base, rising)


def told_lines(row):
    """What tells a row from those that are not alike to it: its base, and the lines of those who count."""
    base = base_at(row, 0)
    return (base, {name: told_line(base, rising).rows for name, rising in counting(row, base).items()})


def are_alike(row, other):
    """Whether two rows give the same for all leaves."""
    return told_lines(row) == told_lines(other)


def is_at_least(row, other):
    """Whether a row gives at least as much as the other one for all leaves."""
    base = base_at(row, 0)
    bound = base_at(other, 0)
    if is_less(base, bound):
        return False
    maps = counting(row, base)
    for name, rising in counting(other, bound).items():
        if name in maps:
            if not told_line(bound, rising) <= told_line(base, maps[name]):
                return False
        elif is_less(base, rising(LAST_MINUTE)):
            return False
    return True


def first_apart(base, one, other):
    """The least told minute at which two people count otherwise over one base, None for a map that does not count."""
    if one is None and other is None:
        return None
    if one is None:
        return other.back(base) + 1
    if other is None:
        return one.back(base) + 1
    minute = first_unlike(line_over(base, one), line_over(base, other))
    return None if is_less(LAST_MINUTE, minute) else minute
