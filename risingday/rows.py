"""The rows of maps, as tuples; nothing here knows the class of maps.

Operators call these functions, so they change nothing that they get.
"""
from risingday.kinds import is_whole
from risingday.never import is_less, nth_least


def row_gives(row, minute):
    """What a row gives for a minute from its start on."""
    start, value, grows = row
    return value + minute - start if grows else value


def place_at(rows, minute):
    """The index of the row that covers a minute."""
    low = 0
    high = len(rows)
    while high - low > 1:
        middle = (low + high) // 2
        if rows[middle][0] <= minute:
            low = middle
        else:
            high = middle
    return low


def value_at(rows, minute):
    """What the rows give for a minute, or for never."""
    return None if minute is None else row_gives(rows[place_at(rows, minute)], minute)


def end_of(rows, place):
    """The first minute behind a row, None behind the last one."""
    return rows[place + 1][0] if place + 1 < len(rows) else None


def is_row(row):
    """Whether any value has the form of a row, wherever it stands."""
    return (isinstance(row, tuple) and len(row) == 3 and is_whole(row[0])
            and (row[1] is None or is_whole(row[1])) and isinstance(row[2], bool))


def is_right_alone(row):
    """Whether a row gives nothing below its minutes, and never does not grow."""
    start, value, grows = row
    return not grows if value is None else value >= start


def is_right_behind(row, ahead):
    """Whether a row may stand behind the one ahead of it."""
    start = row[0]
    if start <= ahead[0]:
        return False
    before = row_gives(ahead, start - 1)
    return not is_less(before, start - 1) and not is_less(row[1], before)


def first_wrong(rows):
    """The index of the first wrong row, None if all are right."""
    for place, row in enumerate(rows):
        if not is_row(row) or not is_right_alone(row):
            return place
        if place == 0 and row[0] != 0:
            return place
        if place > 0 and not is_right_behind(row, rows[place - 1]):
            return place
    _, value, grows = rows[-1]
    return None if value is None or grows else len(rows) - 1


def first_minutes(start, end):
    """The first three minutes of a row, or those that it has.

    Behind three of them the told row goes on as this row does.
    """
    return list(range(start, start + 3 if end is None else min(int(end), start + 3)))


def widened(row, minute, value):
    """The row that covers the minute behind it, too, with this value; None if it cannot."""
    start, first, _ = row
    if row_gives(row, minute) == value:
        return row
    if minute == start + 1 and first is not None and value == first + 1:
        return (start, first, True)
    return None


def told_rows(rows):
    """The told rows of a map: each as long as it can be."""
    told = []
    for place, row in enumerate(rows):
        for minute in first_minutes(row[0], end_of(rows, place)):
            value = row_gives(row, minute)
            wider = widened(told[-1], minute, value) if told else None
            if wider is None:
                told.append((minute, value, False))
            else:
                told[-1] = wider
    return tuple(told)


def row_followed(row, end, second):
    """The rows of a second map behind one row, which covers the minutes ahead of the end."""
    start, value, grows = row
    if not grows:
        return [(start, value_at(second, value), False)]
    found = []
    for place in range(place_at(second, value), len(second)):
        reached = max(int(second[place][0]), value)
        minute = start + reached - value
        if end is not None and minute >= end:
            break
        found.append((minute, row_gives(second[place], reached), second[place][2]))
    return found


def rows_followed(first, second):
    """The rows of first the one map, then the other one."""
    found = []
    for place, row in enumerate(first):
        found.extend(row_followed(row, end_of(first, place), second))
    return found


def all_starts(tables):
    """The starts of all rows of several maps, each once, ascending."""
    return sorted(set([int(row[0]) for rows in tables for row in rows]))


def parts_at(tables, start):
    """For each map the row that begins at a minute and goes on as the map does there."""
    return [(start, value_at(rows, start), rows[place_at(rows, start)][2]) for rows in tables]


def meetings_of(parts, start, end):
    """The start and the minutes ahead of the end at which a growing part comes to a level one."""
    levels = [value for _, value, grows in parts if value is not None and not grows]
    growing = [value for _, value, grows in parts if grows]
    minutes = [start + level - value for level in levels for value in growing if level > value]
    return sorted(set([int(minute) for minute in [start, *minutes] if end is None or minute < end]))


def nth_at(parts, minute, n):
    """The n-th least of what several parts give for a minute."""
    return nth_least([row_gives(part, minute) for part in parts], n)


def nth_parts(parts, start, end, n):
    """The rows of the n-th least of parts from the start on, ahead of the end."""
    found = []
    for minute in meetings_of(parts, start, end):
        value = nth_at(parts, minute, n)
        # Whether it grows does not matter for a row of this one minute alone.
        found.append((minute, value, value is not None and nth_at(parts, minute + 1, n) == value + 1))
    return found


def nth_rows(tables, n):
    """The rows of the n-th least of several maps, from 1.

    Between the starts, and the minutes at which a growing row comes to a level
    one, the maps stand in one order: there the n-th least is a row, too.
    """
    starts = all_starts(tables)
    found = []
    for place, start in enumerate(starts):
        end = starts[place + 1] if place + 1 < len(starts) else None
        found.extend(nth_parts(parts_at(tables, start), start, end, n))
    return found


def part_over(part, other, end):
    """The first minute ahead of the end for which a part gives more than another one."""
    start, value, grows = part
    _, bound, also_grows = other
    if is_less(bound, value):
        return start
    if not grows or also_grows or bound is None:
        return None
    minute = start + bound - value + 1
    return minute if end is None or minute < end else None


def first_over(rows, others):
    """The first minute for which the rows give more than the others, or None."""
    starts = all_starts([rows, others])
    for place, start in enumerate(starts):
        end = starts[place + 1] if place + 1 < len(starts) else None
        part, other = parts_at([rows, others], start)
        minute = part_over(part, other, end)
        if minute is not None:
            return minute
    return None


def greatest_up_to(rows, bound):
    """The greatest minute for which the rows give at most the bound, or None."""
    if is_less(bound, rows[0][1]):
        return None
    place = len(rows) - 1
    while is_less(bound, rows[place][1]):
        place -= 1
    start, value, grows = rows[place]
    end = end_of(rows, place)
    if not grows:
        return end - 1
    reached = start + bound - value
    return reached if end is None else min(int(end) - 1, reached)
