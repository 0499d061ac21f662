"""Ways by slots: who sets out rides as long as the slot tells, and may wait for a later one."""
from risingday.checks import need_count
from risingday.errors import BadNumber, BadPart
from risingday.kinds import is_between, is_listed, is_told_length, is_told_minute
from risingday.never import lesser
from risingday.rising import Rising, least_of


def need_slots(length, slots):
    """A slot length and riding times."""
    if not is_between(length, 1, 720):
        raise BadPart("length")
    if not is_listed(slots) or not 1 <= len(slots) <= 24:
        raise BadPart("slots")
    for riding in slots:
        if not is_told_length(riding):
            raise BadNumber(riding)


def need_last(last):
    """A last setting out, or None."""
    if last is not None and not is_told_minute(last):
        raise BadNumber(last)


def starts_of(length, slots, last):
    """The minutes at which slots begin in which somebody may set out."""
    starts = [length * index for index in range(len(slots))]
    return [start for start in starts if last is None or start <= last]


def ridden(length, slots, minute):
    """When somebody comes who sets out at this minute."""
    return minute + slots[min(minute // length, len(slots) - 1)]


def map_by_start(start, arrival, end):
    """The map of those who set out in one slot: nobody does from the end on."""
    rows = [(start, arrival, True)]
    if start > 0:
        rows = [(0, arrival, False), (start, arrival, True)]
    if end is not None:
        rows.append((end, None, False))
    return Rising(rows)


def by_slots(length, slots, *, last=None):
    """The map of the way: the least arrival of those who set out from a minute on."""
    need_slots(length, slots)
    need_last(last)
    behind = None if last is None else last + 1
    maps = []
    for index, start in enumerate(starts_of(length, slots, last)):
        end = start + length if index + 1 < len(slots) else None
        maps.append(map_by_start(start, start + slots[index], lesser(end, behind)))
    return least_of(maps)


def ride(length, slots, minute):
    """When somebody comes who sets out at this minute at once."""
    need_slots(length, slots)
    need_count(minute)
    return ridden(length, slots, minute)


def set_out(length, slots, minute, *, last=None):
    """The least minute of setting out for the least arrival, None behind the last one."""
    need_slots(length, slots)
    need_count(minute)
    need_last(last)
    if last is not None and minute > last:
        return None
    # Within a slot who sets out later comes later: only its start is worth waiting for.
    chances = [minute, *[start for start in starts_of(length, slots, last) if start > minute]]
    arrivals = [ridden(length, slots, chance) for chance in chances]
    return chances[arrivals.index(min([int(arrival) for arrival in arrivals]))]
