"""Papers of the least means."""
from risingday.above import limit_paper, shows_limit
from risingday.easings import day_eased, need_menu
from risingday.kinds import is_between
from risingday.means import all_picks, first_missed, has_part, is_part, is_picks, least_picks, need_targets
from risingday.needs import need_unbarred


def kept_item(day, targets, menu, picks):
    """The picks, with a paper for each target that they keep."""
    eased = day_eased(day, menu, picks)
    return (picks, tuple([limit_paper(eased, key, limit) for key, limit in targets]))


def lost_item(day, targets, menu, picks):
    """The picks, with the first target that they do not keep and its paper."""
    eased = day_eased(day, menu, picks)
    place = first_missed(eased, targets)
    key, limit = targets[place]
    return (picks, place, limit_paper(eased, key, limit))


def greatest_lost(kept, menu):
    """The list of the greatest picks that have none of those kept as a part."""
    lost = [picks for picks in all_picks(menu) if not has_part(picks, kept)]
    return [picks for picks in lost if not any([picks != other and is_part(picks, other) for other in lost])]


def means_paper(day, targets, menu):
    """The paper of the least picks of a menu that keep targets."""
    kept = least_picks(day, targets, menu)
    lost = greatest_lost(kept, menu)
    return ("means", tuple([kept_item(day, targets, menu, picks) for picks in kept]),
            tuple([lost_item(day, targets, menu, picks) for picks in lost]))


def is_paper_of(eased, target, word, value):
    """Whether any value is a right limit paper of a day for this target, with this word."""
    return shows_limit(eased, value) and value[:3] == (word, target[0], target[1])


def is_kept(day, targets, menu, value):
    """Whether any value is an item of picks that keep targets."""
    if not isinstance(value, tuple) or len(value) != 2 or not is_picks(menu, value[0]):
        return False
    papers = value[1]
    if not isinstance(papers, tuple) or len(papers) != len(targets):
        return False
    eased = day_eased(day, menu, value[0])
    return all([is_paper_of(eased, target, "kept", paper) for target, paper in zip(targets, papers)])


def is_lost(day, targets, menu, value):
    """Whether any value is an item of picks that do not keep targets."""
    if not isinstance(value, tuple) or len(value) != 3 or not is_picks(menu, value[0]):
        return False
    picks, place, paper = value
    if not is_between(place, 0, len(targets) - 1):
        return False
    return is_paper_of(day_eased(day, menu, picks), targets[place], "broken", paper)


def are_least(kept):
    """Whether none of several picks stands there twice or is a part of other ones."""
    return not any([place != other and is_part(picks, kept[other])
                    for place, picks in enumerate(kept) for other in range(len(kept))])


def accepts_means(day, targets, menu, value):
    """Whether any value is a right paper of the least picks."""
    need_unbarred(day)
    need_targets(day, targets)
    need_menu(day, menu)
    if not isinstance(value, tuple) or len(value) != 3 or value[0] != "means":
        return False
    _, kept, lost = value
    if not isinstance(kept, tuple) or not all([is_kept(day, targets, menu, item) for item in kept]):
        return False
    if not isinstance(lost, tuple) or not all([is_lost(day, targets, menu, item) for item in lost]):
        return False
    least = [item[0] for item in kept]
    missed = [item[0] for item in lost]
    return are_least(least) and all([has_part(picks, least) or any([is_part(picks, other) for other in missed])
                                     for picks in all_picks(menu)])
