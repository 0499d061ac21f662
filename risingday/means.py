"""The least means with which a day keeps targets."""
from itertools import combinations

from risingday.days import changed_by
from risingday.easings import day_eased, need_menu
from risingday.errors import BadKey, BadPart
from risingday.keys import is_moment_key
from risingday.kinds import LAST_MINUTE, LONGEST, MOST_DESKS, is_between, is_count, is_listed
from risingday.moments import many_at
from risingday.needs import need_unbarred
from risingday.never import is_less

MOST_TARGETS = 20


def is_target(day, value):
    """Whether any value is a pair of a moment and a limit."""
    return isinstance(value, tuple) and len(value) == 2 and is_moment_key(day, value[0]) and is_count(value[1])


def need_targets(day, targets):
    """A list of one to twenty targets."""
    if not is_listed(targets) or not 1 <= len(targets) <= MOST_TARGETS:
        raise BadPart("targets")
    if not all([is_target(day, target) for target in targets]):
        raise BadPart("targets")


def first_missed(day, targets):
    """The index of the first target that a day does not keep, None if it keeps all."""
    workings = day.workings()
    numbers = workings.worked(workings.told, workings.row)
    for place, (key, limit) in enumerate(targets):
        if is_less(limit, numbers[key]):
            return place
    return None


def keeps_with(day, setting, targets):
    """Whether the day with a setting keeps targets."""
    return first_missed(changed_by(day, setting), targets) is None


def keeps(day, targets):
    """Whether a day keeps targets."""
    need_unbarred(day)
    need_targets(day, targets)
    return first_missed(day, targets) is None


def least_desks(day, counter, targets):
    """The least number of desks of a counter that keeps targets, None without one."""
    need_unbarred(day)
    day.the_counter(counter)
    need_targets(day, targets)
    for desks in range(1, MOST_DESKS + 1):
        if keeps_with(day, ("desks", counter, desks), targets):
            return desks
    return None


def greatest_quorum(day, meeting, targets):
    """The greatest quorum of a meeting that keeps targets, None without one."""
    need_unbarred(day)
    many = many_at(day, day.the_meeting(meeting))
    need_targets(day, targets)
    for quorum in range(many, 0, -1):
        if keeps_with(day, ("quorum", meeting, quorum), targets):
            return quorum
    return None


def least_told(day, targets, most, made):
    """The least number, up to the most, of which a setting is made that keeps targets; None without one.

    Each greater number keeps them, too.
    """
    if not keeps_with(day, made(most), targets):
        return None
    low = 0
    high = most
    while low < high:
        middle = (low + high) // 2
        if keeps_with(day, made(middle), targets):
            high = middle
        else:
            low = middle + 1
    return low


def greatest_notice(day, key, targets):
    """The greatest notice of a guest that keeps targets, None without one."""
    need_unbarred(day)
    if day.notice_of(key) is None:
        raise BadKey(key)
    need_targets(day, targets)
    less = least_told(day, targets, LONGEST, lambda minutes: ("notice", key, LONGEST - minutes))
    return None if less is None else LONGEST - less


def least_longer(day, counter, index, targets):
    """The least minutes by which a span of a counter has to end later to keep targets, None without any."""
    need_unbarred(day)
    hours = day.the_counter(counter).hours
    hours.longer(index, 0)
    need_targets(day, targets)
    return least_told(day, targets, LAST_MINUTE, lambda minutes: ("hours", counter, hours.longer(index, minutes)))


def is_picks(menu, value):
    """Whether any value is an ascending tuple of unlike indexes of a menu."""
    if not isinstance(value, tuple) or not all([is_between(index, 0, len(menu) - 1) for index in value]):
        return False
    return all([value[place - 1] < value[place] for place in range(1, len(value))])


def all_picks(menu):
    """The list of all picks of a menu, by their number, then ascending."""
    return [picks for size in range(len(menu) + 1) for picks in combinations(range(len(menu)), size)]


def is_part(picks, other):
    """Whether all of some picks are among others."""
    return all([index in other for index in picks])


def has_part(picks, several):
    """Whether some of several picks are a part of these."""
    return any([is_part(other, picks) for other in several])


def eased(day, menu, picks):
    """The day with some easings of a menu."""
    need_unbarred(day)
    need_menu(day, menu)
    if not is_picks(menu, picks):
        raise BadPart("picks")
    return day_eased(day, menu, picks)


def least_picks(day, targets, menu):
    """The list of the least picks that keep targets."""
    need_unbarred(day)
    need_targets(day, targets)
    need_menu(day, menu)
    found = []
    for picks in all_picks(menu):
        if not has_part(picks, found) and first_missed(day_eased(day, menu, picks), targets) is None:
            found.append(picks)
    return found
