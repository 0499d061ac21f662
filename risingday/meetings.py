"""Meetings."""
from risingday.checks import need_name_and_place
from risingday.errors import BadNumber
from risingday.kinds import is_between, is_told_length, is_told_minute


class Meeting:
    """A meeting that begins when it is open and as many as the quorum have come."""

    def __init__(self, name, place, opens, length, quorum=1):
        need_name_and_place(name, place, "place")
        if not is_told_minute(opens):
            raise BadNumber(opens)
        if not is_told_length(length):
            raise BadNumber(length)
        if not is_between(quorum, 1, 6):
            raise BadNumber(quorum)
        self.name = name
        self.place = place
        self.opens = opens
        self.length = length
        self.quorum = quorum

    def __eq__(self, other):
        return (isinstance(other, Meeting) and self.name == other.name and self.place == other.place
                and self.opens == other.opens and self.length == other.length and self.quorum == other.quorum)
