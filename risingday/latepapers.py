"""Papers of what a thing bears, and of the worst of a few late things."""
from risingday.bearing import bears, comes_late, need_target, row_under
from risingday.keys import need_moment_key
from risingday.kinds import LAST_MINUTE, is_between, is_count_or_never
from risingday.late import LayerRules, first_worst, lateness_of, layer_tables, need_late, need_most
from risingday.never import is_less
from risingday.tables import ABOVE, BELOW, fits, is_table, keep_rules
from risingday.things import need_thing, told_late


def late_under(day, key, lateness):
    """The dict of a moment and of what it rests on, with a lateness."""
    workings = day.workings()
    return workings.worked(told_late(workings.told, lateness), row_under(workings, key))


def bearing_paper(day, thing, key, minute):
    """A paper of what a thing bears."""
    most = bears(day, thing, key, minute)
    if most is None:
        return (None, None, late_under(day, key, {}))
    below = None if most == LAST_MINUTE else late_under(day, key, {thing: most + 1})
    return (most, late_under(day, key, {thing: most}), below)


def is_good_late(day, lateness, table, side):
    """Whether any value is a table that is good from a side with a lateness."""
    if not is_table(day, table):
        return False
    workings = day.workings()
    return keep_rules(workings, told_late(workings.told, lateness), table, list(table), side)


def shows_kept(day, lateness, key, minute, table):
    """Whether any value is a table from above that shows that the target is kept with a lateness."""
    return is_good_late(day, lateness, table, ABOVE) and not is_less(minute, table.get(key, ABOVE))


def shows_broken(day, lateness, key, minute, table):
    """Whether any value is a table from below that shows that the target is not kept with a lateness."""
    return is_good_late(day, lateness, table, BELOW) and is_less(minute, table.get(key, BELOW))


def shows_bearing(day, thing, key, minute, value):
    """Whether any value is a paper of what a thing bears."""
    need_thing(day, thing)
    need_target(day, key, minute)
    if not isinstance(value, tuple) or len(value) != 3:
        return False
    most, above, below = value
    if most is None:
        return above is None and shows_broken(day, {}, key, minute, below)
    if not is_between(most, 0, LAST_MINUTE) or not shows_kept(day, {thing: most}, key, minute, above):
        return False
    return below is None if most == LAST_MINUTE else shows_broken(day, {thing: most + 1}, key, minute, below)


def worst_paper(day, late, key, most):
    """A paper of the worst of a moment, None if the layer is above it."""
    need_late(day, late)
    need_moment_key(day, key)
    need_most(most)
    lot, number = first_worst(day.workings(), late, key, most)
    tables = layer_tables(day.workings(), late, most)
    return (number, lot, tuple(tables)) if tables[most][key] == number else None


def is_lot(value, many, most):
    """Whether any value is a lot of at most so many of many indexes."""
    if not isinstance(value, tuple) or len(value) > most:
        return False
    if not all([is_between(index, 0, many - 1) for index in value]):
        return False
    return all([value[place - 1] < value[place] for place in range(1, len(value))])


def are_layer_tables(day, late, tables):
    """Whether all numbers of tables are at least what the rules of their layers give."""
    rules = LayerRules(day.workings(), late)
    for layer, table in enumerate(tables):
        ahead = tables[layer - 1] if layer > 0 else {}
        if not all([fits(ABOVE, table[key], rules.given(key, layer, ahead, table, ABOVE)) for key in table]):
            return False
    return True


def shows_worst(day, late, key, most, value):
    """Whether any value is a paper of the worst of a moment."""
    need_late(day, late)
    need_moment_key(day, key)
    need_most(most)
    if not isinstance(value, tuple) or len(value) != 3:
        return False
    number, lot, tables = value
    if not is_count_or_never(number) or not is_lot(lot, len(late), most):
        return False
    if not isinstance(tables, tuple) or len(tables) != most + 1 or not all([is_table(day, table) for table in tables]):
        return False
    workings = day.workings()
    if is_less(comes_late(workings, row_under(workings, key), lateness_of(late, lot)), number):
        return False
    return are_layer_tables(day, late, tables) and not is_less(number, tables[most].get(key, ABOVE))
