"""Rooms that are turned over, and their guests."""
from risingday.checks import need_name_and_place
from risingday.counters import is_key, is_order
from risingday.errors import BadNumber, BadPart
from risingday.kinds import is_told_length


def are_notices(notices, order):
    """Whether any value is a dict from keys of the order to notices."""
    if not isinstance(notices, dict):
        return False
    return all([is_key(key) and key in order and is_told_length(notice) for key, notice in notices.items()])


class Room:
    """A room with a turn, an order of errands and the notices of its guests."""

    def __init__(self, name, place, turn=0, order=(), notices=None):
        need_name_and_place(name, place, "place")
        if not is_told_length(turn):
            raise BadNumber(turn)
        if not is_order(order):
            raise BadPart("order")
        if notices is not None and not are_notices(notices, order):
            raise BadPart("notices")
        self.name = name
        self.place = place
        self.turn = turn
        self.order = tuple(order)
        told = {} if notices is None else notices
        self._notices = {key: told[key] for key in self.order if key in told}

    def __eq__(self, other):
        return (isinstance(other, Room) and self.name == other.name and self.place == other.place
                and self.turn == other.turn and self.order == other.order and self._notices == other._notices)

    def noticed(self):
        """The dict of the notices, in the order of the room."""
        return {key: self._notices[key] for key in self.order if key in self._notices}
