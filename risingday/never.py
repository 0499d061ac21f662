"""Minutes that may be never: None stands for it and is above every integer."""


def is_less(one, other):
    """Whether one minute is below the other."""
    if one is None:
        return False
    return other is None or one < other


def lesser(one, other):
    """The lesser one of two minutes."""
    return other if is_less(other, one) else one


def greater(one, other):
    """The greater one of two minutes."""
    return one if is_less(other, one) else other


def minutes_more(minute, more):
    """The minute that comes so many minutes later."""
    return None if minute is None else minute + more


def nth_least(minutes, n):
    """The n-th least of a list, from 1; never if the list is shorter."""
    numbers = sorted([int(minute) for minute in minutes if minute is not None])
    return numbers[n - 1] if n <= len(numbers) else None
