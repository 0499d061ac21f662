"""The n-th least of moments, and which of them it rests on."""
from risingday.checks import need_count, need_desks, need_minute, need_minutes
from risingday.errors import BadNumber, BadPart
from risingday.kinds import is_between, is_count_or_never, is_listed, is_whole
from risingday.never import is_less, minutes_more, nth_least


def is_moment(value):
    """Whether any value is an integer of 0 or more, or never."""
    return is_count_or_never(value)


def is_earlier(one, other):
    """Whether one moment is less than the other."""
    need_minute(one)
    need_minute(other)
    return is_less(one, other)


def later_by(moment, more):
    """The moment that comes so many minutes later."""
    need_minute(moment)
    need_count(more)
    return minutes_more(moment, more)


def greatest(moments):
    """The greatest of a list, 0 if it has none."""
    need_minutes("moments", moments)
    return nth_least(moments, len(moments)) if moments else 0


def least(moments):
    """The least of a list, never if it has none."""
    need_minutes("moments", moments)
    return nth_least(moments, 1)


def need_nth(moments, n):
    """A list of moments, and a number from 1 on."""
    need_minutes("moments", moments)
    if not is_whole(n) or n < 1:
        raise BadNumber(n)


def nth(moments, n):
    """The n-th least of a list, never if it is shorter."""
    need_nth(moments, n)
    return nth_least(moments, n)


def places_by_moment(moments):
    """The places of a list by their moments, of like ones by the places."""
    numbers = sorted(set([int(moment) for moment in moments if moment is not None]))
    return [place for number in [*numbers, None] for place, moment in enumerate(moments) if moment == number]


def needed_below(moments, n):
    """The places of the latest moments without which fewer than n are left."""
    need_nth(moments, n)
    if n > len(moments) or nth_least(moments, n) == 0:
        return []
    return sorted([int(place) for place in places_by_moment(moments)[n - 1:]])


def needed_above(moments, n):
    """The places of the n least moments."""
    need_nth(moments, n)
    if nth_least(moments, n) is None:
        return []
    return sorted([int(place) for place in places_by_moment(moments)[:n]])


def are_places(places, many):
    """Whether any value is an ascending list of unlike places of so many."""
    if not is_listed(places) or not all([is_between(place, 0, many - 1) for place in places]):
        return False
    return all([places[index - 1] < places[index] for index in range(1, len(places))])


def need_places(moments, places):
    """An ascending list of places of the moments."""
    if not are_places(places, len(moments)):
        raise BadPart("places")


def keeps_below(moments, n, places):
    """Whether the n-th is no less when all moments but those at the places are 0."""
    need_nth(moments, n)
    need_places(moments, places)
    kept = [moment if place in places else 0 for place, moment in enumerate(moments)]
    return not is_less(nth_least(kept, n), nth_least(moments, n))


def keeps_above(moments, n, places):
    """Whether the n-th is no greater when all moments but those at the places are never."""
    need_nth(moments, n)
    need_places(moments, places)
    kept = [moment if place in places else None for place, moment in enumerate(moments)]
    return not is_less(nth_least(moments, n), nth_least(kept, n))


def desk_free(ends, desks):
    """When a desk is free, by the ends of those ahead."""
    need_minutes("ends", ends)
    need_desks(desks)
    return 0 if len(ends) < desks else nth_least(ends, len(ends) - desks + 1)
