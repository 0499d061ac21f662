"""How the moments of a day come: their rules, what each one needs, and the row along which they can be worked out."""
from risingday.making import (Arrival, CounterBegin, GuestEnd, LastingEnd, MeetingBegin, MeetingEnd, RoomBegin,
                              StayBegin, moment_of)


def errand_values(day, key):
    """The told values of an errand: of the leg, the n, the end and the notice, as far as it has them."""
    errand = day.the_errand(key)
    values = {("leg", key): 0}
    if errand[0] != "meet":
        values[("n", key)] = errand[2]
    values[("end", key)] = 0
    if day.notice_of(key) is not None:
        values[("notice", key)] = day.notice_of(key)
    return values


def told_values(day):
    """The dict from all things of a day, in their order, to their told values."""
    told = {}
    for person in day.persons():
        told[("leaves", person.name)] = person.leaves
        for key in person.own_keys():
            told.update(errand_values(day, key))
    for meeting in day.all_meetings():
        told[("opens", meeting.name)] = meeting.opens
        told[("length", meeting.name)] = meeting.length
    for room in day.all_rooms():
        told[("turn", room.name)] = room.turn
    return told


def arrival_rule(day, key):
    """The rule by which an errand arrives."""
    ahead = day.key_ahead(key)
    return Arrival(key, ("leaves", key[0]) if ahead is None else moment_of(ahead, "ends"), day.leg_of(key))


def begin_rule(day, key):
    """The rule by which an errand begins."""
    word, name = day.the_errand(key)[:2]
    if word == "counter":
        return CounterBegin(key, day.the_counter(name))
    if word == "meet":
        return MeetingBegin(day.the_meeting(name), day.at_same(key))
    return RoomBegin(key, day.the_room(name)) if word == "room" else StayBegin(key)


def end_rule(day, key):
    """The rule by which an errand ends."""
    word, name = day.the_errand(key)[:2]
    if word == "meet":
        return MeetingEnd(key, day.the_meeting(name))
    return GuestEnd(key, day.next_behind(key)) if day.is_early(key) else LastingEnd(key)


def rules_told(day):
    """The dict from all moments of a day, in order, to their rules."""
    rules = {}
    for key in day.all_keys():
        rules[moment_of(key, "arrives")] = arrival_rule(day, key)
        rules[moment_of(key, "begins")] = begin_rule(day, key)
        rules[moment_of(key, "ends")] = end_rule(day, key)
    return rules


def needs_told(rules):
    """The dict from all moments to what they need, in order."""
    order = list(rules)
    places = {key: place for place, key in enumerate(order)}
    needs = {}
    for key, rule in rules.items():
        needs[key] = tuple([order[place] for place in sorted([int(places[need]) for need in rule.asks()])])
    return needs


def needed_by(needs):
    """The dict from all moments to those that need them, in order."""
    behind = {key: [] for key in needs}
    for key, needed in needs.items():
        for need in needed:
            behind[need].append(key)
    return behind


def row_along(needs, behind):
    """The row of needs: each time the least moment that can stand; moments that are not free never can."""
    order = list(needs)
    places = {key: place for place, key in enumerate(order)}
    missing = {key: len(needs[key]) for key in order}
    ready = [places[key] for key in order if missing[key] == 0]
    row = []
    while ready:
        place = min([int(chance) for chance in ready])
        ready.remove(place)
        row.append(order[place])
        for key in behind[order[place]]:
            missing[key] -= 1
            if missing[key] == 0:
                ready.append(places[key])
    return row


class Workings:
    """What all that is asked of moments uses; nobody changes its dicts and lists."""

    def __init__(self, day):
        self.told = told_values(day)
        self.rules = rules_told(day)
        self.needs = needs_told(self.rules)
        self.behind = needed_by(self.needs)
        self.row = row_along(self.needs, self.behind)

    def rule(self, key):
        """All that the rule of a moment rests on: what it uses of what is told, and what it needs."""
        return (self.rules[key].uses(self.told), self.needs[key])

    def given(self, key, told, numbers, absent):
        """What the rule of a moment gives; moments that have no number are taken as absent."""
        return self.rules[key].gives(told, {need: numbers.get(need, absent) for need in self.needs[key]})

    def worked(self, told, row):
        """The dict of the moments along a row, by told values."""
        numbers = {}
        for key in row:
            numbers[key] = self.rules[key].gives(told, numbers)
        return numbers

    def in_order(self, numbers):
        """The dict with its moments in order."""
        return {key: numbers[key] for key in self.rules if key in numbers}
