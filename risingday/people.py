"""People and their errands."""
from risingday.checks import need_name_and_place
from risingday.errors import BadErrand, BadIndex, BadNumber, BadPart
from risingday.kinds import is_between, is_listed, is_name, is_told_length, is_told_minute


def is_errand(value):
    """Whether any value is an errand; None, a struck one, is none."""
    if not isinstance(value, tuple) or len(value) < 2 or not isinstance(value[0], str) or not is_name(value[1]):
        return False
    if value[0] == "meet":
        return len(value) == 2
    return len(value) == 3 and value[0] in ("stay", "counter", "room") and is_told_length(value[2])


def need_errands(errands):
    """A list of up to five errands or struck ones, with no meeting twice."""
    if not is_listed(errands) or len(errands) > 5:
        raise BadPart("errands")
    for index, errand in enumerate(errands):
        if errand is None:
            continue
        if not is_errand(errand) or (errand[0] == "meet" and errand in errands[:index]):
            raise BadErrand(index)


class Person:
    """A person with a home, a minute of leaving and a row of errands."""

    def __init__(self, name, home, leaves, errands=()):
        need_name_and_place(name, home, "home")
        if not is_told_minute(leaves):
            raise BadNumber(leaves)
        need_errands(errands)
        self.name = name
        self.home = home
        self.leaves = leaves
        self.errands = tuple(errands)

    def __eq__(self, other):
        return (isinstance(other, Person) and self.name == other.name and self.home == other.home
                and self.leaves == other.leaves and self.errands == other.errands)

    def own_keys(self):
        """The keys of the errands that are not struck."""
        return [(self.name, index) for index, errand in enumerate(self.errands) if errand is not None]

    def leaving_at(self, minute):
        """The person with another minute of leaving."""
        return Person(self.name, self.home, minute, self.errands)

    def with_errand(self, index, errand):
        """The person with another errand at this index, None for a struck one."""
        if not is_between(index, 0, len(self.errands) - 1):
            raise BadIndex(index)
        errands = [*self.errands[:index], errand, *self.errands[index + 1:]]
        return Person(self.name, self.home, self.leaves, errands)
