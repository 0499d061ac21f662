"""[12], [24], [30]: what things bear, critical things, and dues."""
import random
import sys
import unittest
from pathlib import Path

sys.path.insert(0, str(Path(__file__).parent))

from byhand import known, some_days, worked
from checks import NO_COUNTS, Promises
from risingday.bearing import bears, bears_all, critical, dues
from risingday.counters import Counter
from risingday.days import Day, changed_by
from risingday.errors import BadKey, BadNumber, BadThing, NotSo, Ring
from risingday.moments import moments, worked_from
from risingday.needs import rests_on, shortest_ring
from risingday.people import Person
from risingday.places import Ways
from risingday.rising import steady
from risingday.things import things_of
from test_days import told
from test_keys import NO_DAYS, NO_MOMENT_KEYS
from test_moments import open_day
from test_needs import at_one_place
from test_things import NO_THINGS

RIGHT = ("ann", 0, "ends")


def example():
    people = [Person("a", "inn", 0, [("counter", "bank", 10)]), Person("b", "mill", 0, [("counter", "bank", 4)])]
    ways = Ways({("inn", "hall"): steady(5), ("mill", "hall"): steady(3)})
    return Day(people, ways, [Counter("bank", "hall", order=[("a", 0), ("b", 0)])])


def some_targets(chance, day, many):
    """Moments with minutes around their own."""
    own = moments(day)
    for key in chance.sample(list(own), min(many, len(own))):
        value = own[key] or 0
        yield key, max(0, value + chance.choice([-1, 0, 0, 1, 3, 8, 20, 60]))


class Bears(Promises):
    def is_just(self, day, thing, key, minute, found):
        """The target is kept with what is found, and not with one more."""
        if found is None:
            self.assertGreater(known(worked(day)[key]), minute)
            return
        self.assertIn(found, range(10000))
        self.assertLessEqual(known(worked(day, {thing: found})[key]), minute)
        if found < 9999:
            self.assertGreater(known(worked(day, {thing: found + 1})[key]), minute)

    def test_days_by_chance_by_hand(self):
        chance, seen = random.Random(1), {}
        for day in some_days(80, 3, 3):
            for key, minute in some_targets(chance, day, 3):
                found = bears_all(day, key, minute)
                self.assertEqual(list(found), things_of(day))
                for thing, most in found.items():
                    self.is_just(day, thing, key, minute, most)
                    kind = most if most in (0, None, 9999) else "between"
                    seen[kind] = seen.get(kind, 0) + 1
                    self.assertEqual(bears(day=day, thing=thing, key=key, minute=minute), most)
                self.assertEqual(critical(day=day, key=key, minute=minute),
                                 [thing for thing in things_of(day) if found[thing] == 0])
        self.assertEqual(set(seen), {0, None, 9999, "between"})
        self.assertGreater(min(seen.values()), 40)

    def test_each_lateness(self):
        for day in [example(), open_day()]:
            key = list(moments(day))[5]
            for minute in (moments(day)[key], moments(day)[key] + 13):
                for thing in things_of(day):
                    kept = [known(worked(day, {thing: more})[key]) <= minute for more in range(40)]
                    found = bears(day, thing, key, minute)
                    self.assertEqual(kept, [more <= found for more in range(40)])

    def test_the_example(self):
        day = example()
        self.assertEqual([bears(day, ("leaves", name), ("b", 0, "ends"), 30) for name in ("a", "b")], [11, 23])

    def test_nothing_at_all_and_all(self):
        day = at_one_place({"ann": [("stay", "inn", 5)], "bo": [("stay", "inn", 1)]})
        self.assertEqual((bears(day, ("leaves", "ann"), RIGHT, 4), bears(day, ("leaves", "bo"), RIGHT, 4)), (None, None))
        self.assertEqual((bears(day, ("leaves", "ann"), RIGHT, 5), bears(day, ("leaves", "bo"), RIGHT, 5)), (0, 9999))
        self.assertEqual([bears(day, ("n", ("ann", 0)), RIGHT, minute) for minute in (10003, 10004, 10005, 10 ** 9)],
                         [9998, 9999, 9999, 9999])
        self.assertEqual(critical(day, RIGHT, 4), [])
        self.assertEqual(set(bears_all(day, RIGHT, 4).values()), {None})
        self.assertEqual(critical(day, RIGHT, 5), [("leaves", "ann"), ("leg", ("ann", 0)), ("n", ("ann", 0)),
                                                   ("end", ("ann", 0))])

    def test_a_target_that_is_never(self):
        for day in some_days(60):
            for key, value in moments(day).items():
                if value is None:
                    self.assertEqual(set(bears_all(day, key, 10 ** 9).values()), {None})
                    self.assertEqual(critical(day, key, 10 ** 9), [])


class Dues(Promises):
    def test_plain_days_held_against_one_more(self):
        chance, many = random.Random(3), 0
        for day in some_days(120, 4, 3, plain=True):
            own = moments(day)
            for key, minute in some_targets(chance, day, 3):
                if known(own[key]) > minute:
                    self.refuses(NotSo, "target", dues, day, key, minute)
                    continue
                found = dues(day, key, minute)
                hanging = [other for other in own if other == key or other in rests_on(day, key)]
                names = [person.name for person in day.persons()
                         if any(other[0] == person.name for other in hanging)]
                self.assertEqual(list(found), [*hanging, *[("leaves", name) for name in names]])
                self.assertEqual(found[key], minute)
                for other in hanging:
                    self.assertGreaterEqual(found[other], own[other])
                    self.assertLessEqual(known(worked_from(day, {other: found[other]}).get(key, own[key])), minute)
                    self.assertGreater(known(worked_from(day, {other: found[other] + 1}).get(key, own[key])), minute)
                    many += 1
        self.assertGreater(many, 500)

    def test_what_things_bear_by_dues(self):
        chance = random.Random(4)
        for day in some_days(60, 3, 3, plain=True):
            own = moments(day)
            for key, minute in some_targets(chance, day, 2):
                if known(own[key]) > minute:
                    continue
                found = dues(day=day, key=key, minute=minute)
                for thing, most in bears_all(day, key, minute).items():
                    if thing[0] == "leaves":
                        start = thing if thing in found else None
                        value = day.the_person(thing[1]).leaves
                    elif thing[0] in ("leg", "end"):
                        start = (*thing[1], "arrives" if thing[0] == "leg" else "ends")
                        value = own[start]
                    else:
                        continue
                    self.assertEqual(most, min(9999, found[start] - value) if start in found else 9999, thing)

    def test_the_example(self):
        self.assertEqual(list(dues(example(), ("b", 0, "ends"), 30).items()), [
            (("a", 0, "arrives"), 16), (("a", 0, "begins"), 16), (("a", 0, "ends"), 26), (("b", 0, "arrives"), 26),
            (("b", 0, "begins"), 26), (("b", 0, "ends"), 30), (("leaves", "a"), 11), (("leaves", "b"), 23)])

    def test_not_so(self):
        day = at_one_place({"ann": [("counter", "till", 5)]})
        self.refuses(NotSo, "dues", dues, changed_by(day, ("desks", "till", 2)), RIGHT, 0)
        self.refuses(NotSo, "target", dues, day, RIGHT, 4)
        self.assertEqual(dues(day, RIGHT, 5)[RIGHT], 5)


class Refusals(Promises):
    def test_in_their_order(self):
        day, barred, ring = open_day(), told(), shortest_ring(told())
        self.refuses_part("day", NO_DAYS, lambda wrong: bears(wrong, 5, 5, -1))
        self.refuses(Ring, ring, bears, barred, 5, 5, -1)
        self.refuses_each(BadThing, NO_THINGS, lambda thing: bears(day, thing, 5, -1))
        self.refuses_each(BadKey, NO_MOMENT_KEYS, lambda key: bears(day, ("leaves", "ann"), key, -1))
        self.refuses_each(BadNumber, NO_COUNTS, lambda minute: bears(day, ("leaves", "ann"), RIGHT, minute))
        for call in (bears_all, critical, dues):
            self.refuses_part("day", NO_DAYS, lambda wrong: call(wrong, 5, -1))
            self.refuses(Ring, ring, call, barred, 5, -1)
            self.refuses_each(BadKey, NO_MOMENT_KEYS, lambda key: call(day, key, -1))
            self.refuses_each(BadNumber, NO_COUNTS, lambda minute: call(day, RIGHT, minute))
        self.refuses(NotSo, "dues", dues, day, RIGHT, 0)


if __name__ == "__main__":
    unittest.main()
