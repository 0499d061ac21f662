"""[3] (g), [36]: plain days that are alike, and what tells the others apart."""
import random
import sys
import unittest
from pathlib import Path

sys.path.insert(0, str(Path(__file__).parent))

from byhand import ByHand, some_hours, some_map
from checks import NO_LISTS, Promises
from risingday.alike import alike, classes, difference
from risingday.counters import Counter
from risingday.days import Day, changed_by
from risingday.errors import BadNumber, BadPart, NotSo, Ring
from risingday.hours import Hours
from risingday.meetings import Meeting
from risingday.needs import is_barred, shortest_ring
from risingday.people import Person
from risingday.places import Ways
from risingday.rising import Rising, nowhere, since, stay, steady, until
from risingday.slots import by_slots
from risingday.summaries import Summary
from test_chains import plain_day
from test_days import told
from test_keys import NO_DAYS
from test_moments import open_day
from test_needs import at_one_place
from test_summaries import NO_TOLD_MINUTES, all_at, example, plain_days

LAST = 330
NOT_PLAIN = open_day()


def at_leaves(day, leaves):
    """The moments of a day by hand, with other minutes of leaving."""
    late = {("leaves", person.name): leaves[person.name] - person.leaves for person in day.persons()}
    return ByHand(day, late).values()


def with_way(rising, hours=None, desks=1):
    """A day of one way and one errand at a counter."""
    return Day([Person("ann", "inn", 0, [("counter", "bank", 4)])], Ways({("inn", "hall"): rising}),
               [Counter("bank", "hall", desks, hours, [("ann", 0)])])


def other_day(chance, day):
    """The day with one thing told otherwise, still plain and not barred."""
    key = chance.choice(day.all_keys())
    word, name = day.the_errand(key)[:2]
    settings = [("leaves", chance.choice(day.persons()).name, chance.randrange(60))]
    settings += [("way", pair, some_map(chance)) for pair in day.all_ways().pairs()]
    settings += [("way", pair, day.all_ways().leg(*pair) >> until(chance.randrange(9, 99))) for pair in day.all_ways().pairs()]
    if word != "meet":
        settings.append(("n", key, chance.randrange(12)))
    if word == "counter":
        settings.append(("hours", name, some_hours(chance) or Hours()))
    if word == "meet":
        settings += [("opens", name, chance.randrange(60)), ("length", name, chance.randrange(9))]
    if word == "room":
        settings.append(("turn", name, chance.randrange(9)))
    if word in ("counter", "room"):
        order = day.at_same(key)
        chance.shuffle(order)
        settings.append(("order", name, order))
    try:
        other = changed_by(day, chance.choice(settings))
        Summary(other)
    except (Ring, NotSo):
        return other_day(chance, day)
    return other


def pairs_of_days(many, seed=0):
    """Pairs of plain days with the same moments that often differ a little."""
    chance = random.Random(seed)
    return [(day, other_day(chance, day)) for day in plain_days(many, 3, 2) if day.all_keys()]


class Alike(Promises):
    def test_against_trying_leaves(self):
        chance = random.Random(2)
        found = []
        for day, other in pairs_of_days(120):
            for least in (0, chance.randrange(1, 60), 200):
                answer = difference(day, other, least=least)
                self.assertIs(alike(day, other, least=least), answer is None)
                found.append((answer is None, least, answer is not None and len(set(answer[1].values())) > 1))
                if answer is None:
                    for _ in range(25):
                        leaves = {person.name: chance.choice([least, least + chance.randrange(LAST), 9999])
                                  for person in day.persons()}
                        self.assertEqual(at_leaves(day, leaves), at_leaves(other, leaves))
                else:
                    self.is_first(day, other, least, *answer)
        # All of these ways to come out have been seen.
        self.assertTrue({True, False} <= {same for same, _, _ in found})
        self.assertGreater(len([1 for same, _, alone in found if not same and alone]), 5)
        self.assertGreater(len([1 for same, _, alone in found if not same and not alone]), 5)

    def is_first(self, day, other, least, key, leaves):
        """The difference is the first one, by trying."""
        names = [person.name for person in day.persons()]
        self.assertEqual(list(leaves), names)
        one, two = at_leaves(day, leaves), at_leaves(other, leaves)
        self.assertNotEqual(one[key], two[key])
        ahead = list(one)[:list(one).index(key)]
        self.assertEqual([one[other_key] for other_key in ahead], [two[other_key] for other_key in ahead])
        low = all_at(day, least)
        if leaves == low:
            return
        self.assertEqual(at_leaves(day, low)[key], at_leaves(other, low)[key])
        who = [name for name in names if leaves[name] != least]
        self.assertEqual(len(who), 1)
        self.assertGreater(leaves[who[0]], least)
        for name in names[:names.index(who[0]) + 1]:
            end = leaves[name] if name == who[0] else LAST
            for minute in [*range(least, end, 1 if end < 60 else 3), *([9999] if name != who[0] else [])]:
                tried = {**low, name: minute}
                self.assertEqual(at_leaves(day, tried)[key], at_leaves(other, tried)[key])

    def test_days_that_differ_for_some_leaves_alone(self):
        early, late = with_way(steady(5)), with_way(steady(5) | since(30))
        self.assertEqual(difference(early, late), (("ann", 0, "arrives"), {"ann": 0}))
        self.assertEqual(difference(late, early, least=24), (("ann", 0, "arrives"), {"ann": 24}))
        self.assertIs(difference(early, late, least=25), None)
        self.assertIs(alike(early, late), False)
        self.assertIs(alike(one=early, other=late, least=25), True)
        bounded = with_way(steady(5) >> until(60))
        self.assertEqual(difference(early, bounded), (("ann", 0, "arrives"), {"ann": 56}))
        self.assertEqual(difference(one=bounded, other=early, least=55), (("ann", 0, "arrives"), {"ann": 56}))
        self.assertEqual(difference(bounded, early, least=56), (("ann", 0, "arrives"), {"ann": 56}))
        slots = with_way(by_slots(60, [5, 9]))
        self.assertEqual(difference(early, slots), (("ann", 0, "arrives"), {"ann": 60}))

    def test_at_the_last_told_minute(self):
        early = with_way(steady(5))
        self.assertEqual(difference(early, with_way(steady(5) >> until(10003))), (("ann", 0, "arrives"), {"ann": 9999}))
        self.assertIs(difference(early, with_way(steady(5) >> until(10004))), None)
        self.assertEqual(difference(early, with_way(steady(5) >> until(10003)), least=9999),
                         (("ann", 0, "arrives"), {"ann": 9999}))
        self.assertIs(alike(early, with_way(Rising([(0, 5, True), (10000, 20000, True)])), least=9999), True)

    def test_one_way_that_leads_nowhere(self):
        never = with_way(nowhere())
        self.assertIs(alike(never, with_way(nowhere())), True)
        self.assertEqual(difference(never, with_way(steady(5)), least=7), (("ann", 0, "arrives"), {"ann": 7}))
        self.assertEqual(difference(with_way(steady(5)), never), (("ann", 0, "arrives"), {"ann": 0}))
        # Behind hours that are over both are never, and alike from then on.
        self.assertEqual(difference(with_way(steady(5), Hours([(0, 9)])), with_way(steady(5), Hours([(0, 20)]))),
                         (("ann", 0, "begins"), {"ann": 1}))
        self.assertIs(alike(with_way(steady(5), Hours([(0, 9)])), with_way(steady(5), Hours([(0, 20)])), least=12), True)

    def test_at_the_first_minute_alone(self):
        one, other = with_way(stay()), with_way(since(1))
        self.assertEqual(difference(one, other), (("ann", 0, "arrives"), {"ann": 0}))
        self.assertIs(alike(one, other), False)
        self.assertIs(alike(one, other, least=1), True)
        self.assertEqual(classes([one, other]), [[0], [1]])

    def test_one_who_counts_by_the_very_minute_of_leaving(self):
        one = at_one_place({"ann": [("counter", "till", 0)], "bo": [("counter", "till", 0)]})
        other = changed_by(one, ("order", "till", [("bo", 0), ("ann", 0)]))
        for day, turned in ((one, other), (other, one)):
            self.assertEqual(difference(day, turned), (("ann", 0, "begins"), {"ann": 0, "bo": 1}))
            self.assertEqual(difference(day, turned, least=7), (("ann", 0, "begins"), {"ann": 7, "bo": 8}))
            self.assertIs(difference(day, turned, least=9999), None)

    def test_told_leaves_do_not_count(self):
        day = example()
        self.assertIs(alike(day, changed_by(day, ("leaves", "bob", 700))), True)

    def test_a_person_who_counts_in_one_alone(self):
        # In the first day bob's begin never rests on ann, in the other one it does.
        first = example()
        turned = changed_by(first, ("order", "bank", [("bob", 0), ("ann", 0)]))
        key, leaves = difference(first, turned, least=3)
        self.assertEqual((key, leaves), (("ann", 0, "begins"), {"ann": 3, "bob": 3}))
        self.assertEqual(difference(turned, first, least=3), (key, leaves))

    def test_the_first_person_and_the_least_minute(self):
        people = [Person("bo", "inn", 0, [("meet", "talk")]), Person("ann", "inn", 0, [("meet", "talk")])]
        ways = [{("inn", "hall"): steady(1)}, {("inn", "hall"): steady(1) | Rising([(0, 0, True), (8, 20, False), (21, 21, True)])}]
        one, two = [Day(people, Ways(legs), [], [Meeting("talk", "hall", 12, 1, 2)]) for legs in ways]
        self.assertEqual(difference(one, two), (("bo", 0, "arrives"), {"bo": 8, "ann": 0}))
        # The opening covers it up to minute 19; from 20 on both ways lead to the same.
        self.assertIs(difference(one, two, least=20), None)
        self.assertEqual(difference(one, two, least=19), None)
        self.assertEqual(difference(one, two, least=18), (("bo", 0, "arrives"), {"bo": 18, "ann": 18}))

    def test_people_in_another_order(self):
        for day, other in pairs_of_days(12, 5):
            turned = Day(other.persons()[::-1], other.all_ways(), other.all_counters(), other.all_meetings(),
                         other.all_rooms())
            answer = difference(day, other)
            self.assertEqual(difference(day, turned), answer)
            self.assertIs(alike(turned, other), True)
            back = difference(turned, day)
            self.assertIs(back is None, answer is None)
            if back is not None:
                self.assertEqual(list(back[1]), [person.name for person in turned.persons()])
                values = at_leaves(turned, back[1])
                self.assertNotEqual(values[back[0]], at_leaves(day, back[1])[back[0]])

    def test_a_person_more_who_shares_nothing(self):
        more = Person("zoe", "inn", 9, [("stay", "inn", 5)])
        for day, other in pairs_of_days(20, 6):
            wider, others = [Day([*one.persons(), more], one.all_ways(), one.all_counters(), one.all_meetings(),
                                 one.all_rooms()) for one in (day, other)]
            answer = difference(day, other, least=2)
            found = difference(wider, others, least=2)
            self.assertEqual(found, answer if answer is None else (answer[0], {**answer[1], "zoe": 2}))
            summary, wide = Summary(day), Summary(wider)
            for key in summary.moment_keys():
                self.assertEqual(wide.number_of(key), summary.number_of(key))
                self.assertEqual(wide.names_of(key), summary.names_of(key))
                for name in summary.names_of(key):
                    self.assertEqual(wide.map_of(key, name), summary.map_of(key, name))

    def test_days_without_moments(self):
        self.assertIs(alike(Day(), Day()), True)
        self.assertIs(difference(Day([Person("a", "inn", 0)]), Day([Person("a", "hall", 9)])), None)


class Classes(Promises):
    def test_by_pairs(self):
        chance = random.Random(3)
        for day, other in pairs_of_days(20, 8):
            days = [day, other, *[chance.choice([day, other, other_day(chance, day)]) for _ in range(chance.randrange(7))]]
            found = classes(days)
            self.assertEqual(sorted(index for lot in found for index in lot), list(range(len(days))))
            self.assertEqual(found, sorted(sorted(lot) for lot in found))
            for lot in found:
                for index in range(len(days)):
                    self.assertIs(alike(days[lot[0]], days[index]), index in lot)

    def test_one_day_and_eight(self):
        day = example()
        self.assertEqual(classes([day]), [[0]])
        ways = [with_way(steady(n % 3)) for n in range(8)]
        self.assertEqual(classes(days=tuple(ways)), [[0, 3, 6], [1, 4, 7], [2, 5]])
        self.assertEqual(classes([Day(), Day()]), [[0, 1]])

    def test_refusals(self):
        day = example()
        self.refuses_part("days", [*NO_LISTS, [], (), [day] * 9], classes)
        self.refuses_part("day", NO_DAYS, lambda value: classes([day, value]))
        self.refuses(Ring, shortest_ring(told()), classes, [day, told(), 5])
        self.refuses(NotSo, "summary", classes, [day, plain_day(), NOT_PLAIN, told()])
        self.refuses(BadPart, "people", classes, [day, day, plain_day()])
        self.refuses(BadPart, "day", classes, [day, plain_day(), 5])


class Refusals(Promises):
    def test_people_and_moments(self):
        day = example()
        other_names = Day([Person("ann", "inn", 0), Person("bo", "inn", 0)])
        struck = changed_by(day, ("struck", ("bob", 0)))
        fewer = Day([Person("ann", "inn", 0)])
        same_names = Day([Person("ann", "inn", 0, [("stay", "inn", 1)]), Person("bob", "inn", 0)])
        for other in (other_names, struck, fewer, same_names, Day()):
            for call in (alike, difference):
                self.refuses(BadPart, "people", call, day, other)
                self.refuses(BadPart, "people", call, other, day)
                # The people are looked at ahead of the minute.
                with self.assertRaises(BadPart):
                    call(day, other, least=-1)
        # Without errands the names alone tell the days apart.
        self.refuses(BadPart, "people", alike, other_names, Day([Person("bo", "inn", 0)]))
        # Another kind of errand has the same moments.
        other_kind = Day([Person("ann", "inn", 0, [("stay", "inn", 1)]), Person("bob", "inn", 0, [("stay", "inn", 1)])])
        self.assertIs(alike(day, other_kind), False)

    def test_least(self):
        day = example()
        for call in (alike, difference):
            self.refuses_each(BadNumber, NO_TOLD_MINUTES, lambda least: call(day, day, least=least))
            self.assertFalse(call(day, day, least=9999) is False)
            with self.assertRaises(TypeError):
                call(day, day, 5)

    def test_days(self):
        day = example()
        for call in (alike, difference):
            self.refuses_part("day", NO_DAYS, lambda value: call(value, told(), least=-1))
            self.refuses_part("day", NO_DAYS, lambda value: call(day, value, least=-1))
            self.refuses(Ring, shortest_ring(told()), call, told(), 5)
            self.refuses(Ring, shortest_ring(told()), call, day, told())
            self.refuses(NotSo, "summary", call, NOT_PLAIN, 5)
            self.refuses(NotSo, "summary", call, day, NOT_PLAIN)
            self.assertIs(is_barred(NOT_PLAIN), False)


if __name__ == "__main__":
    unittest.main()
