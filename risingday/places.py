"""Ways between places."""
from risingday.errors import BadPart, NoWay
from risingday.kinds import is_name
from risingday.rising import Rising, stay


def is_pair(value):
    """Whether any value is a tuple of two unlike names."""
    return (isinstance(value, tuple) and len(value) == 2 and is_name(value[0]) and is_name(value[1])
            and value[0] != value[1])


def need_legs(legs):
    """A dict from pairs to maps."""
    if not isinstance(legs, dict):
        raise BadPart("ways")
    if not all([is_pair(pair) for pair in legs]):
        raise BadPart("pair")
    if not all([isinstance(rising, Rising) for rising in legs.values()]):
        raise BadPart("map")


class Ways:
    """Ways, told by pairs of places."""

    def __init__(self, legs=None):
        if legs is None:
            self._legs = {}
        else:
            need_legs(legs)
            self._legs = {pair: rising for pair, rising in legs.items()}

    def __eq__(self, other):
        return isinstance(other, Ways) and self._legs == other._legs

    def pairs(self):
        """The list of the pairs that have a way, ascending."""
        # Of pairs of names the order as strings is their own one: a quote is below each letter.
        return sorted(list(self._legs), key=str)

    def leg(self, start, goal):
        """The map of a way, or that of at once for a place itself."""
        if is_name(start) and is_name(goal) and start == goal:
            return stay()
        if not is_pair((start, goal)) or (start, goal) not in self._legs:
            raise NoWay((start, goal))
        return self._legs[(start, goal)]

    def with_way(self, pair, rising):
        """The ways with this one; without it, if the map is None."""
        if not is_pair(pair):
            raise BadPart("pair")
        if rising is not None and not isinstance(rising, Rising):
            raise BadPart("map")
        if rising is None and pair not in self._legs:
            raise NoWay(pair)
        legs = {told: self._legs[told] for told in self._legs if told != pair}
        if rising is not None:
            legs[pair] = rising
        return Ways(legs)
