"""What moments need, rings, the row of needs, and groups of people."""
from risingday.days import need_day
from risingday.errors import Ring
from risingday.keys import is_moment_key, need_moment_key
from risingday.rings import ring_of


def reached(steps, starts):
    """The dict of True of all that steps lead to from some starts; steps are a dict to lists of the next ones."""
    found = {}
    left = [moment for start in starts for moment in steps[start]]
    while left:
        moment = left.pop()
        if moment not in found:
            found[moment] = True
            left.extend(steps[moment])
    return found


def needs_of(day, key):
    """The list of what a moment needs, in order."""
    need_moment_key(day, key)
    return list(day.workings().needs[key])


def rests_on(day, key):
    """The list of what a moment rests on, in order."""
    need_moment_key(day, key)
    workings = day.workings()
    return list(workings.in_order(reached(workings.needs, [key])))


def hangs_on(day, key):
    """The list of the moments that hang on this one, in order."""
    need_moment_key(day, key)
    workings = day.workings()
    return list(workings.in_order(reached(workings.behind, [key])))


def does_rest(day, key, other):
    """Whether a moment rests on the other one."""
    need_moment_key(day, key)
    need_moment_key(day, other)
    return other in reached(day.workings().needs, [key])


def is_barred(day):
    """Whether the needs of a day form a ring."""
    need_day(day)
    workings = day.workings()
    return len(workings.row) < len(workings.rules)


def shortest_ring(day):
    """The told shortest ring, None in a day that is not barred."""
    if not is_barred(day):
        return None
    workings = day.workings()
    return ring_of(workings.needs, workings.behind)


def need_unbarred(day):
    """A Day that is not barred."""
    if is_barred(day):
        raise Ring(shortest_ring(day))


def free_keys(day):
    """The list of the moments that rest on no ring, in order."""
    need_day(day)
    workings = day.workings()
    free = {key: True for key in workings.row}
    return list(workings.in_order(free))


def row_of_needs(day):
    """The row of all moments, each behind what it needs, each time the least one that can stand."""
    need_unbarred(day)
    return list(day.workings().row)


def does_stand(day, value):
    """Whether any value is a list that is a standing row of all moments."""
    need_day(day)
    if not isinstance(value, list) or not all([is_moment_key(day, key) for key in value]):
        return False
    places = {key: place for place, key in enumerate(value)}
    needs = day.workings().needs
    if len(places) != len(value) or len(places) != len(needs):
        return False
    return all([places[need] < places[key] for key in value for need in needs[key]])


def touches(day):
    """The dict from the names of the people to lists of those whom they touch, themselves among them."""
    touched = {person.name: [person.name] for person in day.persons()}
    for key, needed in day.workings().needs.items():
        for need in needed:
            touched[key[0]].append(need[0])
            touched[need[0]].append(key[0])
    return touched


def groups(day):
    """The list of the lists of the names of those who are together."""
    need_day(day)
    touched = touches(day)
    names = list(touched)
    together = {name: reached(touched, [name]) for name in names}
    firsts = [name for place, name in enumerate(names)
              if not any([other in together[name] for other in names[:place]])]
    return [[name for name in names if name in together[first]] for first in firsts]
