"""[3] (g), [34], [35], and [36] of rows that are alike: plain days as maps."""
import random
import sys
import unittest
from pathlib import Path

sys.path.insert(0, str(Path(__file__).parent))

from byhand import ByHand, known, some_days, told as never_told
from checks import NO_COUNTS, NO_NAMES, ODD, Promises
from risingday.counters import Counter
from risingday.days import Day, changed_by
from risingday.errors import BadKey, BadName, BadNumber, BadPart, NotSo, Ring
from risingday.hours import Hours
from risingday.moments import moments
from risingday.needs import shortest_ring
from risingday.people import Person
from risingday.places import Ways
from risingday.rising import Rising, nowhere, since, stay, steady, until
from risingday.summaries import Summary
from test_chains import plain_day
from test_days import told
from test_keys import NO_DAYS, NO_MOMENT_KEYS
from test_moments import open_day
from test_needs import at_one_place

RIGHT = ("ann", 0, "ends")
NO_TOLD_MINUTES = [*NO_COUNTS, 10000]
FAR_BELOW = -10 ** 12


def leaving(day, leaves):
    """The day with other minutes of leaving."""
    for name, minute in leaves.items():
        day = changed_by(day, ("leaves", name, minute))
    return day


def all_at(day, minute, **others):
    return {person.name: others.get(person.name, minute) for person in day.persons()}


def along_one(day, key, name, minute):
    """What a moment of a plain day is by the roads from one person's leaving alone."""
    hand = ByHand(leaving(day, {name: minute}), {("opens", meeting.name): FAR_BELOW for meeting in day.all_meetings()})
    found = {}

    def at(moment):
        if moment not in found:
            first = not any(other[0] == name and hand.ahead(other[:2]) is None
                            for other in [moment, *hand.under(moment)])
            found[moment] = FAR_BELOW if first else hand.rule(moment, at)
        return found[moment]

    return never_told(at(key))


def plain_days(many, people=3, errands=3):
    return some_days(many, people, errands, plain=True)


def example():
    people = [Person("ann", "inn", 0, [("counter", "bank", 10)]), Person("bob", "hut", 0, [("counter", "bank", 4)])]
    legs = Ways({("inn", "hall"): steady(5), ("hut", "hall"): steady(3)})
    return Day(people, legs, [Counter("bank", "hall", order=[("ann", 0), ("bob", 0)])])


class Told(Promises):
    def test_the_example(self):
        day = example()
        told_rows, key = Summary(day), ("bob", 0, "begins")
        self.assertEqual((told_rows.number_of(key), told_rows.base_of(key), told_rows.free_minute(key, "bob"),
                          told_rows.latest(key, "bob", 30), told_rows.latest_of_all(key, 30)), (15, 15, 12, 27, 15))

    def test_keys_and_names(self):
        for day in plain_days(30):
            summary = Summary(day)
            hand = ByHand(day)
            self.assertEqual(summary.moment_keys(), hand.moments)
            for key in hand.moments:
                under = {other[0] for other in [key, *hand.under(key)]}
                names = [person.name for person in day.persons() if person.name in under]
                self.assertEqual(summary.names_of(key), names)
                for person in day.persons():
                    self.assertIs(summary.map_of(key, person.name) is not None, person.name in names)
        self.assertEqual(Summary(Day()).moment_keys(), [])

    def test_told_rows(self):
        chance = random.Random(1)
        for day in plain_days(40, 3, 3):
            summary = Summary(day)
            at_nought = moments(leaving(day, all_at(day, 0)))
            for key in summary.moment_keys():
                # The row of a leaving has the number 0: so the number is what comes of leaving at 0.
                self.assertEqual(summary.number_of(key), at_nought[key])
                for name in summary.names_of(key):
                    rising = summary.map_of(key=key, name=name)
                    self.assertIsInstance(rising, Rising)
                    for minute in [0, 1, 9999, *[chance.randrange(150) for _ in range(4)]]:
                        self.assertEqual(rising(minute), along_one(day, key, name, minute))

    def test_rows_of_a_told_day(self):
        day = at_one_place({"bo": [("room", "bath", 5)], "ann": [("room", "bath", 3), ("meet", "talk")],
                            "cy": [("meet", "talk")]}, orders={"bath": [("bo", 0), ("ann", 0)]}, turn=2, quorum=2)
        day = changed_by(changed_by(day, ("opens", "talk", 20)), ("length", "talk", 7))
        summary = Summary(day)
        key = ("ann", 0, "begins")
        self.assertEqual((summary.number_of(key), summary.names_of(key)), (7, ["bo", "ann"]))
        self.assertEqual((summary.map_of(key, "bo"), summary.map_of(key, "ann"), summary.map_of(key, "cy")),
                         (steady(7), stay(), None))
        key = ("cy", 0, "ends")
        self.assertEqual((summary.number_of(key), summary.names_of(key)), (27, ["bo", "ann", "cy"]))
        self.assertEqual([summary.map_of(key, name) for name in ("bo", "ann", "cy")], [steady(17), steady(10), steady(7)])

    def test_lists_that_are_changed(self):
        summary = Summary(example())
        summary.moment_keys().clear()
        summary.names_of(("bob", 0, "ends")).clear()
        summary.given({"ann": 0, "bob": 0}).clear()
        self.assertEqual((len(summary.moment_keys()), summary.names_of(key=("bob", 0, "ends"))), (6, ["ann", "bob"]))
        self.cannot_be_iterated(summary)


class Given(Promises):
    def test_held_against_the_moments(self):
        chance = random.Random(2)
        for day in plain_days(50, 4, 3):
            summary = Summary(day)
            for _ in range(5):
                leaves = {person.name: chance.choice([0, 1, 9999, chance.randrange(100)]) for person in day.persons()}
                found = summary.given(leaves=leaves)
                self.assertEqual(list(found.items()), list(moments(leaving(day, leaves)).items()))
                turned = {name: leaves[name] for name in reversed(list(leaves))}
                self.assertEqual(summary.given(turned), found)
            told_leaves = {person.name: person.leaves for person in day.persons()}
            self.assertEqual(summary.given(told_leaves), moments(day))

    def test_bases_and_lines(self):
        chance = random.Random(3)
        for day in plain_days(24, 3, 3):
            summary = Summary(day)
            for key in summary.moment_keys():
                least = chance.choice([0, 0, 5, 30, 9999])
                base = moments(leaving(day, all_at(day, least)))[key]
                self.assertEqual(summary.base_of(key, least=least), base)
                self.assertEqual(summary.base_of(key=key), moments(leaving(day, all_at(day, 0)))[key])
                for person in day.persons():
                    line = summary.line_of(key, person.name, least=least)
                    self.assertEqual(summary.line_of(key=key, name=person.name), summary.line_of(key, person.name, least=0))
                    if base is None:
                        self.assertIsNone(line)
                        continue
                    if person.name not in summary.names_of(key):
                        self.assertEqual(line, since(base))
                        continue
                    for minute in [least, min(9999, least + 3), chance.randrange(least, 10000), 9999]:
                        there = moments(leaving(day, all_at(day, least, **{person.name: minute})))[key]
                        self.assertEqual(line(minute), there)
                    self.assertEqual(line, since(base) | summary.map_of(key, person.name))
            leaves = {person.name: chance.randrange(5, 90) for person in day.persons()}
            for key, value in summary.given(leaves).items():
                lines = [summary.line_of(key, name, least=5) for name in summary.names_of(key)]
                parts = [summary.base_of(key, least=5), *[line(leaves[name]) for name, line in
                                                          zip(summary.names_of(key), lines) if line is not None]]
                self.assertEqual(known(value), max(known(part) for part in parts))

    def test_leaves_that_are_refused(self):
        summary = Summary(example())
        wrong = [*ODD, None, 5, [], (), {}, {"ann": 5}, {"ann": 5, "bob": 5, "cy": 5}, {"ann": 5, "cy": 5},
                 {"ann": 5, "bo": -1}, ["ann", "bob"], {"ann": -1, None: 5}]
        self.refuses_part("leaves", wrong, summary.given)
        for minute in NO_TOLD_MINUTES:
            self.refuses(BadNumber, minute, summary.given, {"bob": minute, "ann": 9999})
            self.refuses(BadNumber, minute, summary.given, {"bob": -7, "ann": minute})


class Tells(Promises):
    def test_who_counts(self):
        chance, seen = random.Random(4), {True: 0, False: 0}
        for day in plain_days(24, 3, 3):
            summary = Summary(day)
            for key in summary.moment_keys():
                for person in day.persons():
                    others = all_at(day, 0)
                    ends = [moments(leaving(day, {**others, person.name: minute}))[key] for minute in (0, 9999)]
                    found = summary.does_count(key=key, name=person.name)
                    seen[found] += 1
                    self.assertIs(found, ends[0] != ends[1])
                    if not found:
                        others = {name: chance.randrange(200) for name in others}
                        ends = [moments(leaving(day, {**others, person.name: minute}))[key] for minute in (0, 77, 9999)]
                        self.assertEqual(len(set(ends)), 1)
        self.assertGreater(min(seen.values()), 50)

    def test_free_minutes(self):
        between = 0
        for day in plain_days(24, 3, 3):
            summary = Summary(day)
            base = moments(leaving(day, all_at(day, 0)))
            for key in summary.moment_keys():
                for person in day.persons():
                    found = summary.free_minute(key=key, name=person.name)
                    self.assertIn(found, range(10000))
                    between += 0 < found < 9999
                    for minute in {0, max(0, found - 1), found, min(9999, found + 1), 9999}:
                        there = moments(leaving(day, all_at(day, 0, **{person.name: minute})))[key]
                        self.assertIs(there == base[key], minute <= found)
        self.assertGreater(between, 50)

    def test_latest(self):
        chance, seen = random.Random(5), {None: 0, 9999: 0, "between": 0}
        for day in plain_days(24, 3, 3):
            summary, own = Summary(day), moments(day)
            for key in summary.moment_keys():
                limit = max(0, (own[key] or 0) + chance.choice([-30, -4, -1, 0, 1, 9, 50, 9000]))
                for name in [*[person.name for person in day.persons()], None]:
                    if name is None:
                        found = summary.latest_of_all(key=key, limit=limit)
                    else:
                        found = summary.latest(key=key, name=name, limit=limit)
                    seen[found if found in (None, 9999) else "between"] += 1
                    last = -1 if found is None else found
                    for minute in {0, max(0, last - 1), max(0, last), min(9999, last + 1), 9999}:
                        leaves = all_at(day, minute) if name is None else {name: minute}
                        there = moments(leaving(day, leaves))[key]
                        self.assertIs(known(there) <= limit, minute <= last)
        self.assertGreater(min(seen.values()), 50)

    def test_minute_by_minute(self):
        day = example()
        summary, key = Summary(day), ("bob", 0, "begins")
        rows = {name: [moments(leaving(day, {name: minute}))[key] for minute in range(60)] for name in ("ann", "bob")}
        both = [moments(leaving(day, all_at(day, minute)))[key] for minute in range(60)]
        for limit in range(14, 60):
            for name in ("ann", "bob"):
                kept = [minute for minute in range(60) if rows[name][minute] <= limit]
                self.assertEqual(summary.latest(key, name, limit), max(kept, default=None))
            self.assertEqual(summary.latest_of_all(key, limit), max([m for m in range(60) if both[m] <= limit], default=None))

    def test_never(self):
        people = [Person("ann", "inn", 0, [("stay", "hall", 5)]), Person("bob", "inn", 5, [("stay", "mill", 1)])]
        day = Day(people, Ways({("inn", "hall"): nowhere(), ("inn", "mill"): until(9)}))
        summary = Summary(day)
        self.assertEqual((summary.number_of(RIGHT), summary.base_of(RIGHT), summary.line_of(RIGHT, "ann")), (None,) * 3)
        self.assertEqual((summary.does_count(RIGHT, "ann"), summary.free_minute(RIGHT, "ann")), (False, 9999))
        self.assertEqual((summary.latest(RIGHT, "bob", 10 ** 9), summary.latest_of_all(RIGHT, 10 ** 9)), (None, None))
        self.assertIsNone(summary.line_of(RIGHT, "bob"))
        key = ("bob", 0, "arrives")
        self.assertEqual((summary.base_of(key, least=9), summary.base_of(key, least=10)), (9, None))
        self.assertEqual((summary.line_of(key, "bob", least=10), summary.line_of(key, "bob")), (None, until(9)))
        self.assertEqual((summary.latest(key, "bob", 10 ** 6), summary.latest_of_all(key, 3)), (9, 3))
        self.assertEqual((summary.names_of(RIGHT), summary.map_of(RIGHT, "ann")), (["ann"], nowhere()))


class Alike(Promises):
    def test_the_same_and_others(self):
        for day in plain_days(15):
            self.assertTrue(Summary(day) == Summary(day))
            self.assertTrue(Summary(day) == Summary(leaving(day, all_at(day, 77))))
        for value in [*ODD, None, 5, {}, example(), Summary]:
            self.assertIs(Summary(example()) == value, False)
        self.assertTrue(Summary(Day()) == Summary(Day(ways=Ways({("a", "b"): stay()}))))

    def test_people_in_whatever_order(self):
        day = example()
        turned = Day(day.persons()[::-1], day.all_ways(), day.all_counters())
        self.assertTrue(Summary(day) == Summary(turned))
        self.assertFalse(Summary(day) != Summary(turned))
        more = Day([*day.persons(), Person("cy", "inn", 5)], day.all_ways(), day.all_counters())
        self.assertFalse(Summary(day) == Summary(more))

    def test_other_rows_and_moments(self):
        day = example()
        for setting in (("n", ("ann", 0), 11), ("n", ("bob", 0), 5), ("order", "bank", [("bob", 0), ("ann", 0)]),
                        ("way", ("inn", "hall"), steady(6)), ("hours", "bank", Hours([(0, 9999)])),
                        ("struck", ("bob", 0)), ("way", ("hut", "hall"), until(9998) >> steady(3))):
            self.assertFalse(Summary(day) == Summary(changed_by(day, setting)), setting)

    def test_what_comes_behind_all_told_minutes(self):
        day = example()
        for way in (until(9999) >> steady(5), steady(5) | Rising([(0, 5, True), (10000, 20000, True)])):
            self.assertTrue(Summary(day) == Summary(changed_by(day, ("way", ("inn", "hall"), way))))
        low = changed_by(day, ("way", ("inn", "hall"), Rising([(0, 10004, False), (10000, 20000, True)])))
        high = changed_by(day, ("way", ("inn", "hall"), Rising([(0, 10004, False), (10005, 10005, True)])))
        self.assertTrue(Summary(low) == Summary(high))
        self.assertEqual((Summary(low).does_count(("ann", 0, "arrives"), "ann"),
                          Summary(low).free_minute(("ann", 0, "arrives"), "ann")), (False, 9999))

    def test_rows_that_are_told_otherwise(self):
        # ann never waits for the opening, as she comes behind it: the rows are told alike or not, they give the same.
        ann = Person("ann", "inn", 0, [("stay", "inn", 50), ("meet", "talk")])
        days = [at_one_place({"ann": ann.errands}) for _ in range(2)]
        days[1] = changed_by(days[1], ("opens", "talk", 50))
        self.assertTrue(Summary(days[0]) == Summary(days[1]))
        self.assertFalse(Summary(days[0]) == Summary(changed_by(days[1], ("opens", "talk", 51))))

    def test_a_person_who_does_not_count(self):
        errands = {"ann": [("stay", "inn", 600)] * 3 + [("counter", "till", 1)], "bo": [("counter", "till", 4)]}
        orders = {"till": [("ann", 3), ("bo", 0)]}
        day = at_one_place(errands, orders=orders)
        late = changed_by(day, ("way", ("inn", "far"), stay()))
        self.assertTrue(Summary(day) == Summary(late))
        self.assertTrue(Summary(day).does_count(("bo", 0, "begins"), "bo"))
        self.assertEqual(Summary(day).free_minute(("bo", 0, "begins"), "bo"), 1801)

    def test_by_chance_against_leaves(self):
        chance, seen = random.Random(6), {True: 0, False: 0}
        for day in plain_days(60, 2, 2):
            for _ in range(3):
                key = chance.choice([*day.all_keys(), None])
                if key is None or len(day.the_errand(key)) == 2:
                    continue
                other = changed_by(day, ("n", key, max(0, day.the_errand(key)[2] + chance.choice([-1, 0, 1]))))
                one, two = Summary(day), Summary(other)
                same = one == two
                seen[same] += 1
                leaves = [{person.name: chance.choice([0, 9999, chance.randrange(120)]) for person in day.persons()}
                          for _ in range(40)]
                if same:
                    self.assertTrue(all(one.given(row) == two.given(row) for row in leaves))
                else:
                    rows = [*leaves, *[all_at(day, 0, **{person.name: minute}) for person in day.persons()
                                       for minute in range(0, 10000, 3333)], all_at(day, 0)]
                    self.assertFalse(all(one.given(row) == two.given(row) for row in rows))
        self.assertGreater(min(seen.values()), 10)


class Refusals(Promises):
    def test_days(self):
        self.refuses_part("day", NO_DAYS, Summary)
        self.refuses(Ring, shortest_ring(told()), Summary, told())
        not_plain = changed_by(told(), ("desks", "till", 3))
        self.refuses(Ring, shortest_ring(not_plain), Summary, not_plain)
        self.refuses(NotSo, "summary", Summary, open_day())
        self.refuses(NotSo, "summary", Summary, changed_by(plain_day(), ("desks", "till", 2)))
        self.assertEqual(len(Summary(day=plain_day()).moment_keys()), 9)

    def test_in_their_order(self):
        summary = Summary(at_one_place({"bo": [None, ("stay", "inn", 5), ("stay", "inn", 1)],
                                        "ann": [("stay", "inn", 5)]}))
        wrong = [key for key in NO_MOMENT_KEYS if key != RIGHT]
        for call in (summary.number_of, summary.names_of, lambda key: summary.base_of(key, least=-1),
                     lambda key: summary.map_of(key, 5), lambda key: summary.line_of(key, 5, least=-1),
                     lambda key: summary.does_count(key, 5), lambda key: summary.free_minute(key, 5),
                     lambda key: summary.latest(key, 5, -1), lambda key: summary.latest_of_all(key, -1)):
            self.refuses_each(BadKey, wrong, call)
        names = [*NO_NAMES, *ODD, None, "zoe", "inn", ("ann",), ["ann"]]
        for call in (lambda name: summary.map_of(RIGHT, name), lambda name: summary.line_of(RIGHT, name, least=-1),
                     lambda name: summary.does_count(RIGHT, name), lambda name: summary.free_minute(RIGHT, name),
                     lambda name: summary.latest(RIGHT, name, -1)):
            self.refuses_each(BadName, names, call)
        self.refuses_each(BadNumber, NO_TOLD_MINUTES, lambda least: summary.base_of(RIGHT, least=least))
        self.refuses_each(BadNumber, NO_TOLD_MINUTES, lambda least: summary.line_of(RIGHT, "ann", least=least))
        self.refuses_each(BadNumber, NO_COUNTS, lambda limit: summary.latest(RIGHT, "ann", limit))
        self.refuses_each(BadNumber, NO_COUNTS, lambda limit: summary.latest_of_all(RIGHT, limit))

    def test_by_name_only(self):
        summary = Summary(plain_day())
        with self.assertRaises(TypeError):
            summary.base_of(RIGHT, 5)
        with self.assertRaises(TypeError):
            summary.line_of(RIGHT, "ann", 5)
        self.assertIsInstance(BadPart("leaves"), ValueError)


if __name__ == "__main__":
    unittest.main()
