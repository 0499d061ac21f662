"""[3] (c), (d), [8], [9], [23], [24]: moments, what makes them, and plain days."""
import random
import sys
import unittest
from pathlib import Path

sys.path.insert(0, str(Path(__file__).parent))

from byhand import NEVER, ByHand, known, some_day, some_days, worked
from checks import NO_LISTS, NO_MOMENTS, Promises
from risingday.counters import Counter
from risingday.days import Day, changed_by
from risingday.errors import BadKey, BadNumber, BadPart, Ring
from risingday.hours import Hours
from risingday.meetings import Meeting
from risingday.moments import along, free_moments, is_plain, made_by, moment, moments, not_plain, worked_from
from risingday.needs import does_stand, row_of_needs, shortest_ring
from risingday.people import Person
from risingday.places import Ways
from risingday.rising import nowhere, since, steady, until
from risingday.rooms import Room
from test_days import told
from test_keys import NO_DAYS, NO_MOMENT_KEYS
from test_needs import at_one_place, barred_day, barred_days


def open_day():
    """The day told in test_days, its room in another order and with a notice less, so that it is not barred."""
    return changed_by(changed_by(told(), ("order", "bath", [("bo", 1), ("ann", 3)])), ("notice", ("bo", 1), None))


def short(day, *keys):
    """The moments of some errands, each as (arrives, begins, ends)."""
    found = moments(day)
    return [tuple(found[(*key, word)] for word in ("arrives", "begins", "ends")) for key in keys]


def made_by_hand(hand, values, key):
    """[23], what makes a value."""
    at, kind, word = {k: known(v) for k, v in values.items()}, hand.errand(key[:2])[0], key[2]
    needs = hand.needs(key)
    arrival, begin = at[(*key[:2], "arrives")], at.get((*key[:2], "begins"))
    host = hand.hosts.get(hand.errand(key[:2])[1]) if kind != "stay" else None
    if word == "begins" and kind == "counter":
        ahead = hand.before(key[:2])
        parts = {(*key[:2], "arrives"): arrival}
        if ahead:
            parts[(*ahead[-1], "begins")] = at[(*ahead[-1], "begins")]
        ends = {(*other, "ends"): at[(*other, "ends")] for other in ahead}
        free = sorted(ends.values())[len(ahead) - host.desks] if len(ahead) >= host.desks else 0
        t = max([*parts.values(), free])
        makers = {part for part, value in parts.items() if value == t}
        if len(ahead) >= host.desks and free == t:
            makers |= {end for end, value in ends.items() if value == t}
    elif word == "begins" and kind == "meet":
        last = sorted(at[need] for need in needs)[host.quorum - 1]
        makers = {need for need in needs if at[need] == last and last >= host.opens}
    elif word == "begins" and kind == "room":
        makers = {need for need in needs if min(NEVER, at[need] + (host.turn if need[2] == "ends" else 0)) == begin}
    elif word == "ends" and kind == "meet":
        end = at[key]
        makers = {need for need in needs if min(NEVER, at[need] + (host.length if need[2] == "begins" else 0)) == end}
    elif word == "ends" and hand.behind(key[:2]) is not None:
        behind = (*hand.behind(key[:2]), "arrives")
        makers = set()
        if min(NEVER, begin + hand.errand(key[:2])[2]) == at[key]:
            makers.add((*key[:2], "begins"))
        if min(NEVER, max(begin, at[behind]) + host.noticed()[key[:2]]) == at[key]:
            makers |= {need for need in needs if at[need] == max(begin, at[behind])}
    else:
        makers = set(needs)
    return [need for need in needs if need in makers]


class Moments(Promises):
    def test_one_who_stays(self):
        day = Day([Person("a", "h", 0, [("stay", "p", 10)])], Ways({("h", "p"): steady(5)}))
        wanted = {("a", 0, "arrives"): 5, ("a", 0, "begins"): 5, ("a", 0, "ends"): 15}
        self.assertEqual(list(moments(day).items()), list(wanted.items()))
        self.assertEqual(moments(day=Day()), {})
        self.assertEqual(not_plain(day), [])

    def test_an_errand_behind_a_struck_one(self):
        errands = [("stay", "inn", 3), None, ("stay", "hall", 2)]
        day = Day([Person("a", "inn", 7, errands)], Ways({("inn", "hall"): steady(5)}))
        self.assertEqual(short(day, ("a", 0), ("a", 2)), [(7, 7, 10), (15, 15, 17)])

    def test_a_counter(self):
        errands = {"ann": [("stay", "inn", 3), ("counter", "till", 10)], "bo": [("counter", "till", 4)],
                   "cy": [("counter", "till", 4)]}
        order = {"till": [("ann", 1), ("bo", 0), ("cy", 0)]}
        keys = [("ann", 1), ("bo", 0), ("cy", 0)]
        self.assertEqual(short(at_one_place(errands, 1, order), *keys), [(3, 3, 13), (0, 13, 17), (0, 17, 21)])
        self.assertEqual(short(at_one_place(errands, 2, order), *keys), [(3, 3, 13), (0, 3, 7), (0, 7, 11)])
        self.assertEqual(short(at_one_place(errands, 3, order), *keys), [(3, 3, 13), (0, 3, 7), (0, 3, 7)])
        day = at_one_place(errands, 2, order)
        open_day = changed_by(day, ("hours", "till", Hours([(5, 15), (30, 60)])))
        self.assertEqual(short(open_day, *keys), [(3, 5, 15), (0, 5, 9), (0, 9, 13)])
        shut_early = changed_by(day, ("hours", "till", Hours([(5, 12), (30, 60)])))
        self.assertEqual(short(shut_early, *keys), [(3, 30, 40), (0, 30, 34), (0, 34, 38)])
        never_open = changed_by(day, ("hours", "till", Hours([(5, 14)])))
        self.assertEqual(short(never_open, *keys), [(3, None, None), (0, None, None), (0, None, None)])

    def test_a_meeting(self):
        errands = {"ann": [("meet", "talk")], "bo": [("stay", "inn", 9), ("meet", "talk")],
                   "cy": [("stay", "inn", 50), ("meet", "talk")]}
        keys = [("ann", 0), ("bo", 1), ("cy", 1)]
        for quorum, begin in ((1, 5), (2, 9), (3, 50)):
            day = changed_by(changed_by(at_one_place(errands, quorum=quorum), ("opens", "talk", 5)), ("length", "talk", 30))
            self.assertEqual(short(day, *keys), [(0, begin, begin + 30), (9, begin, begin + 30),
                                                 (50, begin, max(begin + 30, 50))])

    def test_a_room(self):
        errands = {"ann": [("room", "bath", 20)], "bo": [("stay", "inn", 6), ("room", "bath", 5)]}
        order = {"bath": [("ann", 0), ("bo", 1)]}
        keys = [("ann", 0), ("bo", 1)]
        self.assertEqual(short(at_one_place(errands, turn=3, orders=order), *keys), [(0, 0, 20), (6, 23, 28)])
        for notice, end in ((0, 6), (5, 11), (14, 20), (600, 20)):
            day = at_one_place(errands, turn=3, orders=order, notices={("ann", 0): notice, ("bo", 1): 0})
            self.assertEqual(short(day, *keys), [(0, 0, end), (6, max(6, end + 3), max(6, end + 3) + 5)])

    def test_a_guest_with_one_who_waits_already(self):
        errands = {"ann": [("stay", "inn", 10), ("room", "bath", 20)], "bo": [("room", "bath", 5)]}
        day = at_one_place(errands, orders={"bath": [("ann", 1), ("bo", 0)]}, notices={("ann", 1): 2})
        self.assertEqual(short(day, ("ann", 1), ("bo", 0)), [(10, 10, 12), (0, 12, 17)])

    def test_never(self):
        bath = Room("bath", "hall", 4, [("ann", 0), ("bo", 0)], {("ann", 0): 5})
        talk = Meeting("talk", "hall", 2, 3, 1)
        people = [Person("ann", "inn", 0, [("room", "bath", 9), ("meet", "talk")]),
                  Person("bo", "mill", 0, [("room", "bath", 9), ("meet", "talk")])]
        ways = Ways({("inn", "hall"): steady(1), ("mill", "hall"): nowhere()})
        day = Day(people, ways, [], [talk], [bath])
        self.assertEqual(short(day, ("ann", 0), ("ann", 1), ("bo", 0), ("bo", 1)),
                         [(1, 1, 10), (10, 10, 13), (None, None, None), (None, 10, None)])

    def test_days_by_chance_by_hand(self):
        kinds, nevers = set(), 0
        for day in some_days(150, 4, 4):
            hand = ByHand(day)
            found = moments(day)
            self.assertEqual(list(found.items()), list(hand.values().items()))
            for key in hand.moments:
                self.assertEqual(moment(day, key), found[key])
            self.assertEqual(free_moments(day), found)
            kinds |= {hand.errand(key)[0] for key in hand.keys}
            nevers += list(found.values()).count(None)
        self.assertEqual(kinds, {"stay", "counter", "meet", "room"})
        self.assertGreater(nevers, 20)

    def test_barred_days(self):
        told_some = 0
        for day in [barred_day(), *barred_days(30)]:
            hand = ByHand(day)
            ring = shortest_ring(day)
            values = hand.values()
            told_some += len(values)
            self.assertEqual(list(free_moments(day=day).items()), list(values.items()))
            self.refuses(Ring, ring, moments, day)
            for key in hand.moments:
                if key in values:
                    self.assertEqual((moment(day, key), made_by(day, key)),
                                     (values[key], made_by_hand(hand, values, key)))
                else:
                    self.refuses(Ring, ring, moment, day, key)
                    self.refuses(Ring, ring, made_by, day, key)
        self.assertGreater(told_some, 100)

    def test_dicts_that_are_changed(self):
        day = barred_day()
        free_moments(day).clear()
        self.assertEqual(len(free_moments(day)), 8)

    def test_refusals(self):
        day = told()
        barred = barred_day()
        for call in (moments, free_moments, is_plain, not_plain):
            self.refuses_part("day", NO_DAYS, call)
        for call in (moment, made_by, along, worked_from):
            self.refuses_part("day", NO_DAYS, lambda wrong: call(wrong, 5))
        for call in (moment, made_by):
            self.refuses_each(BadKey, NO_MOMENT_KEYS, lambda key: call(day, key))
            self.refuses(BadKey, ("ann", 0), call, barred, ("ann", 0))
            self.refuses(Ring, shortest_ring(barred), call, day=barred, key=("ann", 0, "begins"))


class Along(Promises):
    def test_each_standing_row_leads_to_the_same(self):
        chance = random.Random(7)
        for day in some_days(25, 3, 4):
            hand = ByHand(day)
            for _ in range(4):
                row = []
                while len(row) < len(hand.moments):
                    row.append(chance.choice([key for key in hand.moments if key not in row
                                              and all(need in row for need in hand.needs(key))]))
                self.assertEqual(list(along(day, row)), row)
                self.assertEqual(along(day, tuple(row)), moments(day))
        self.assertEqual(along(day=Day(), row=()), {})

    def test_refusals(self):
        day = open_day()
        row = row_of_needs(day)
        wrong = [*NO_LISTS, [], row[:-1], row[::-1], [*row, row[0]], tuple(row[1:]), [*row[1:], row[0]], row[0], "",
                 [*row[:-1], None], [list(key) for key in row]]
        self.refuses_each(BadKey, wrong, lambda value: along(day, value))
        barred = barred_day()
        self.refuses_each(BadKey, [list(free_moments(barred)), [], ByHand(barred).moments], lambda row: along(barred, row))
        self.assertTrue(does_stand(day, row))


class Makers(Promises):
    def test_days_by_chance_by_hand(self):
        many = set()
        for day in some_days(200, 4, 4):
            hand = ByHand(day)
            values = hand.values()
            for key in hand.moments:
                found = made_by(day, key)
                self.assertEqual(found, made_by_hand(hand, values, key), key)
                many.add(len(found))
        self.assertTrue({0, 1, 2, 3} <= many)

    def test_several_that_make_the_value(self):
        errands = {name: [("counter", "till", n)] for name, n in (("ann", 5), ("bo", 5), ("cy", 2))}
        day = changed_by(at_one_place(errands, 2), ("leaves", "cy", 5))
        self.assertEqual(made_by(day, ("cy", 0, "begins")), [("ann", 0, "ends"), ("bo", 0, "ends"), ("cy", 0, "arrives")])
        self.assertEqual(made_by(changed_by(day, ("leaves", "cy", 6)), ("cy", 0, "begins")), [("cy", 0, "arrives")])
        self.assertEqual(made_by(changed_by(day, ("leaves", "cy", 4)), ("cy", 0, "begins")),
                         [("ann", 0, "ends"), ("bo", 0, "ends")])
        self.assertEqual(made_by(day, ("bo", 0, "begins")), [("ann", 0, "begins"), ("bo", 0, "arrives")])
        shut = changed_by(day, ("hours", "till", Hours([(0, 9), (100, 200)])))
        self.assertEqual(made_by(changed_by(shut, ("leaves", "cy", 8)), ("cy", 0, "begins")), [("cy", 0, "arrives")])

    def test_what_a_number_alone_makes(self):
        day = changed_by(at_one_place({"ann": [("meet", "talk")], "bo": [("meet", "talk")]}), ("opens", "talk", 5))
        self.assertEqual(made_by(day=day, key=("ann", 0, "begins")), [])
        self.assertEqual(made_by(day, ("ann", 0, "arrives")), [])
        self.assertEqual(made_by(changed_by(day, ("opens", "talk", 0)), ("bo", 0, "begins")),
                         [("ann", 0, "arrives"), ("bo", 0, "arrives")])
        self.assertEqual(made_by(changed_by(day, ("leaves", "bo", 7)), ("bo", 0, "ends")), [("bo", 0, "arrives")])
        self.assertEqual(made_by(day, ("bo", 0, "ends")), [("bo", 0, "begins")])

    def test_a_guest_by_both_roads(self):
        errands = {"ann": [("room", "bath", 8)], "bo": [("stay", "inn", 5), ("room", "bath", 1)]}
        day = at_one_place(errands, notices={("ann", 0): 3})
        self.assertEqual(made_by(day, ("ann", 0, "ends")), [("ann", 0, "begins"), ("bo", 1, "arrives")])
        self.assertEqual(made_by(changed_by(day, ("notice", ("ann", 0), 2)), ("ann", 0, "ends")), [("bo", 1, "arrives")])
        self.assertEqual(made_by(changed_by(day, ("n", ("ann", 0), 7)), ("ann", 0, "ends")), [("ann", 0, "begins")])


class WorkedFrom(Promises):
    def by_hand(self, day, table):
        hand = ByHand(day)
        found = {}
        while len(found) < len(hand.moments):
            for key in hand.moments:
                if key not in found and all(need in found for need in hand.needs(key)):
                    found[key] = table[key] if key in table else hand.gives(key, found, None)
        return {key: found[key] for key in hand.moments
                if key in table or any(other in table for other in hand.under(key))}

    def test_days_by_chance_by_hand(self):
        chance = random.Random(11)
        for day in some_days(60, 3, 4):
            own = moments(day)
            for _ in range(6):
                keys = chance.sample(list(own), min(len(own), chance.randrange(4)))
                table = {key: chance.choice([own[key], None, 0, 7, chance.randrange(60)]) for key in keys}
                found = worked_from(day, table)
                self.assertEqual(list(found.items()), list(self.by_hand(day, table).items()))
                higher = {key: max([own[key], value], key=known) for key, value in table.items()}
                for key, value in worked_from(day=day, table=higher).items():
                    self.assertGreaterEqual(known(value), known(own[key]))
            self.assertEqual(worked_from(day, own), own)
            self.assertEqual(worked_from(day, {}), {})

    def test_what_is_put_in_stands(self):
        day = at_one_place({"ann": [("stay", "inn", 5), ("stay", "inn", 6)], "bo": [("stay", "inn", 1)]})
        table = {("ann", 0, "ends"): 3, ("ann", 0, "arrives"): 50}
        self.assertEqual(list(worked_from(day, table).items()), [
            (("ann", 0, "arrives"), 50), (("ann", 0, "begins"), 50), (("ann", 0, "ends"), 3), (("ann", 1, "arrives"), 3),
            (("ann", 1, "begins"), 3), (("ann", 1, "ends"), 9)])
        self.assertEqual(table, {("ann", 0, "ends"): 3, ("ann", 0, "arrives"): 50})
        self.assertEqual(worked_from(day, {("bo", 0, "ends"): 1}), {("bo", 0, "ends"): 1})

    def test_refusals_key_by_key(self):
        day, barred = open_day(), barred_day()
        right = ("ann", 0, "ends")
        for wrong in NO_MOMENT_KEYS:
            try:
                table = {right: 5, wrong: -1, ("bo", 1, "ends"): -2}
            except TypeError:
                continue
            self.refuses(BadKey, wrong, worked_from, day, table)
        for value in NO_MOMENTS:
            self.refuses(BadNumber, value, worked_from, day, {right: 5, ("ann", 0, "begins"): value, "x": 5})
            self.refuses(BadNumber, value, worked_from, barred, {("ann", 0, "begins"): value})
        self.refuses(BadKey, "x", worked_from, barred, {("ann", 0, "begins"): 5, "x": -1})
        self.refuses(Ring, shortest_ring(barred), worked_from, barred, {("ann", 0, "begins"): 5})
        self.refuses(Ring, shortest_ring(barred), worked_from, barred, {})


class Rise(Promises):
    """[9]: what gets no less when something told gets greater."""

    def no_less(self, day, setting):
        try:
            later = changed_by(day, setting)
        except (BadPart, BadNumber):
            return
        found, then = moments(day), moments(later)
        self.assertEqual(list(found), list(then))
        for key in found:
            self.assertLessEqual(known(found[key]), known(then[key]), (setting, key))

    def test_each_told_thing(self):
        chance = random.Random(3)
        for day in some_days(60, 4, 3):
            for person in day.persons():
                self.no_less(day, ("leaves", person.name, person.leaves + chance.randrange(1, 30)))
            for key in day.all_keys():
                errand = day.the_errand(key)
                if len(errand) == 3:
                    self.no_less(day, ("n", key, errand[2] + chance.randrange(1, 20)))
                if day.notice_of(key) is not None:
                    self.no_less(day, ("notice", key, day.notice_of(key) + chance.randrange(1, 9)))
            for meeting in day.all_meetings():
                self.no_less(day, ("opens", meeting.name, meeting.opens + chance.randrange(1, 40)))
                self.no_less(day, ("length", meeting.name, meeting.length + chance.randrange(1, 40)))
                self.no_less(day, ("quorum", meeting.name, meeting.quorum + 1))
            for room in day.all_rooms():
                self.no_less(day, ("turn", room.name, room.turn + chance.randrange(1, 9)))
            for counter in day.all_counters():
                if counter.desks > 1:
                    self.no_less(day, ("desks", counter.name, chance.randrange(1, counter.desks)))
                spans = counter.hours.spans()
                within = Hours([(2, 9), (30, 61)]) if spans is None else Hours([(a, (a + b) // 2) for a, b in spans])
                self.assertTrue(within <= counter.hours)
                self.no_less(day, ("hours", counter.name, within))
            for pair in day.all_ways().pairs():
                rising = day.all_ways().leg(*pair)
                for later in (rising >> steady(3), rising | since(25), rising | until(30)):
                    self.no_less(day, ("way", pair, later))

    def test_an_extra_rises_and_an_order_need_not(self):
        day = at_one_place({"ann": [("counter", "till", 10)], "bo": [("counter", "till", 4)]})
        turned = changed_by(day, ("order", "till", [("bo", 0), ("ann", 0)]))
        self.assertEqual(short(day, ("ann", 0), ("bo", 0)), [(0, 0, 10), (0, 10, 14)])
        self.assertEqual(short(turned, ("ann", 0), ("bo", 0)), [(0, 4, 14), (0, 0, 4)])
        for day in some_days(40, 3, 3):
            hand = ByHand(day)
            for thing in hand.things():
                late = worked(day, {thing: 7})
                self.assertTrue(all(known(value) <= known(late[key]) for key, value in moments(day).items()))


class Plain(Promises):
    def test_what_keeps_a_day_from_it(self):
        people = [Person("ann", "inn", 0, [("meet", "chat"), ("meet", "talk"), ("room", "bath", 1)]),
                  Person("bo", "inn", 0, [("meet", "chat"), ("meet", "talk"), ("room", "bath", 1), ("room", "loft", 1)]),
                  Person("cy", "inn", 0, [("room", "bath", 1), ("room", "loft", 1)])]
        counters = [Counter("till", "inn", 3), Counter("desk", "inn"), Counter("bank", "inn", 2)]
        meetings = [Meeting("talk", "inn", 0, 0, 1), Meeting("chat", "inn", 0, 0, 1)]
        rooms = [Room("loft", "inn", 0, [("cy", 1), ("bo", 3)], {("cy", 1): 5, ("bo", 3): 5}),
                 Room("bath", "inn", 0, [("cy", 0), ("ann", 2), ("bo", 2)], {("ann", 2): 5, ("cy", 0): 0, ("bo", 2): 5})]
        day = Day(people, None, counters, meetings, rooms)
        wanted = [("desks", "till"), ("desks", "bank"), ("quorum", "talk"), ("quorum", "chat"), ("guest", ("cy", 1)),
                  ("guest", ("cy", 0)), ("guest", ("ann", 2))]
        self.assertEqual(not_plain(day=day), wanted)
        self.assertIs(is_plain(day=day), False)
        settings = [("desks", "till", 1), ("desks", "bank", 1), ("quorum", "talk", 2), ("quorum", "chat", 2),
                    ("notice", ("cy", 1), None), ("notice", ("cy", 0), None), ("notice", ("ann", 2), None)]
        for place, setting in enumerate(settings):
            less = changed_by(day, setting)
            self.assertEqual(not_plain(less), wanted[:place] + wanted[place + 1:])
            self.assertIs(is_plain(less), False)
        for setting in settings:
            day = changed_by(day, setting)
        self.assertEqual(not_plain(day), [])
        self.assertIs(is_plain(day), True)
        self.assertEqual((is_plain(Day()), not_plain(Day())), (True, []))

    def test_barred_days_too(self):
        self.assertIs(is_plain(barred_day()), True)
        self.assertEqual(not_plain(changed_by(barred_day(), ("desks", "till", 2))), [("desks", "till")])

    def test_days_by_chance(self):
        for seed in range(80):
            self.assertIs(is_plain(some_day(seed, plain=True)), True)
            day = some_day(seed)
            hand = ByHand(day)
            counters = any(counter.desks > 1 for counter in day.all_counters())
            meetings = any(len(hand.met(key)) > hand.hosts[hand.errand(key)[1]].quorum for key in hand.keys
                           if hand.errand(key)[0] == "meet")
            self.assertIs(is_plain(day), not (counters or meetings or any(hand.behind(key) for key in hand.keys)))

    def test_there_each_moment_is_the_greatest_of_maps(self):
        for day in some_days(30, 2, 3, plain=True):
            def leaving(one, other, told_day=day):
                return moments(changed_by(changed_by(told_day, ("leaves", "bo", one)), ("leaves", "ann", other)))

            for one, other in ((1, 1), (9, 30), (30, 9), (12, 0), (3, 55), (80, 80)):
                both, first, second = leaving(one, other), leaving(one, 0), leaving(0, other)
                for key in both:
                    self.assertEqual(known(both[key]), max(known(first[key]), known(second[key])))


if __name__ == "__main__":
    unittest.main()
