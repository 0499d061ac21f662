"""[3] (d), [8], [9], [29]: things, and moments with a lateness."""
import random
import sys
import unittest
from pathlib import Path

sys.path.insert(0, str(Path(__file__).parent))

from byhand import ByHand, known, some_days, worked
from checks import NO_COUNTS, NO_LISTS, ODD, Promises
from risingday.days import Day, changed_by
from risingday.errors import BadNumber, BadThing, Ring
from risingday.hours import Hours
from risingday.moments import moments
from risingday.needs import shortest_ring
from risingday.things import is_thing, late_moments, things_of, value_of
from test_days import told
from test_keys import NO_DAYS
from test_moments import open_day
from test_needs import at_one_place

NO_THINGS = [
    *ODD, *NO_LISTS, None, 5, [], (), ("leaves",), ("leaves", "zoe"), ("leaves", "bank"), ("leaves", ("ann", 0)),
    ("leaves", "ann", 5), ["leaves", "ann"], ("leaves", ["ann"]), ("leaves", None), ("Leaves", "ann"), ("ann", "leaves"),
    ("leg", "ann"), ("leg", ("ann", 1)), ("leg", ("ann", 5)), ("leg", ("ann", True)), ("leg", ("ann", False)),
    ("leg", ["ann", 0]), ("leg", (["ann"], 0)), ("leg", ("ann", 0, "arrives")), ("leg", ("zoe", 0)), ("n", ("ann", 2)),
    ("n", ("bo", 3)), ("n", ("ann", 1)), ("end", ("ann", 1)), ("end", "talk"), ("opens", "bank"), ("opens", "bath"),
    ("opens", ("ann", 2)), ("length", "ann"), ("turn", "bank"), ("turn", "talk"), ("notice", ("ann", 0)),
    ("notice", ("bo", 2)), ("notice", "bath"), ("notice", ("bo", 1)), ("quorum", "talk"), ("desks", "bank"), (None, "ann"),
    (["leaves"], "ann"), (5, "ann"), ("begin", ("ann", 0)), "leaves", {("leaves", "ann"): 5},
]


class Things(Promises):
    def test_in_their_order(self):
        day = open_day()
        wanted = {("leaves", "bo"): 9, ("leg", ("bo", 1)): 0, ("n", ("bo", 1)): 5, ("end", ("bo", 1)): 0,
                  ("leg", ("bo", 2)): 0, ("n", ("bo", 2)): 4, ("end", ("bo", 2)): 0, ("leg", ("bo", 3)): 0,
                  ("end", ("bo", 3)): 0, ("leaves", "ann"): 0, ("leg", ("ann", 0)): 0, ("n", ("ann", 0)): 10,
                  ("end", ("ann", 0)): 0, ("leg", ("ann", 2)): 0, ("end", ("ann", 2)): 0, ("leg", ("ann", 3)): 0,
                  ("n", ("ann", 3)): 7, ("end", ("ann", 3)): 0, ("notice", ("ann", 3)): 1, ("leg", ("ann", 4)): 0,
                  ("n", ("ann", 4)): 3, ("end", ("ann", 4)): 0, ("leaves", "cy"): 3, ("opens", "talk"): 20,
                  ("length", "talk"): 30, ("turn", "loft"): 0, ("turn", "bath"): 4}
        self.assertEqual(things_of(day), list(wanted))
        self.assertEqual({thing: value_of(day, thing) for thing in things_of(day)}, wanted)
        self.assertEqual(value_of(day=day, thing=("leaves", "ann")), 0)
        things_of(day).clear()
        self.assertEqual(len(things_of(day=day)), len(wanted))
        self.assertEqual(things_of(Day()), [])

    def test_days_by_chance(self):
        for day in some_days(60, 3, 4):
            wanted = ByHand(day).things()
            self.assertEqual(things_of(day), list(wanted))
            for thing, value in wanted.items():
                self.assertEqual((value_of(day, thing), is_thing(day, thing)), (value, True))

    def test_is_thing_of_all_kinds_of_values(self):
        day = open_day()
        for thing in things_of(day):
            self.assertIs(is_thing(day, thing), True)
        for value in NO_THINGS:
            self.assertIs(is_thing(day, value), False, value)
            self.refuses(BadThing, value, value_of, day, value)
        self.assertIs(is_thing(day=day, value=("turn", "bath")), True)
        struck = changed_by(day, ("struck", ("ann", 0)))
        self.assertIs(is_thing(struck, ("leg", ("ann", 0))), False)

    def test_names_that_are_words(self):
        day = at_one_place({"leaves": [("stay", "inn", 5)], "leg": [("stay", "inn", 5), ("stay", "inn", 2)]})
        self.assertEqual(late_moments(day, {("leaves", "leaves"): 4, ("leg", ("leg", 1)): 3}), {
            ("leaves", 0, "arrives"): 4, ("leaves", 0, "begins"): 4, ("leaves", 0, "ends"): 9, ("leg", 0, "arrives"): 0,
            ("leg", 0, "begins"): 0, ("leg", 0, "ends"): 5, ("leg", 1, "arrives"): 8, ("leg", 1, "begins"): 8,
            ("leg", 1, "ends"): 10})


class Late(Promises):
    def test_nothing_late(self):
        for day in [Day(), *some_days(15)]:
            self.assertEqual(list(late_moments(day, {}).items()), list(moments(day).items()))

    def test_each_thing_by_itself(self):
        kinds = {}
        for day in some_days(60, 3, 3):
            own = moments(day)
            for thing in things_of(day):
                for more in (0, 1, 7, 60, 10000):
                    found = late_moments(day, {thing: more})
                    self.assertEqual(list(found.items()), list(worked(day, {thing: more}).items()))
                    self.assertTrue(all(known(own[key]) <= known(found[key]) for key in own))
                    kinds[thing[0]] = kinds.get(thing[0], 0) + (found != own)
        self.assertEqual(set(kinds), {"leaves", "leg", "n", "end", "opens", "length", "turn", "notice"})
        self.assertGreater(min(kinds.values()), 2)

    def test_several_things(self):
        chance = random.Random(5)
        for day in some_days(60, 4, 3):
            for _ in range(5):
                lateness = {thing: chance.choice([0, 1, 5, 30, 700]) for thing in things_of(day) if chance.random() < 0.3}
                kept = dict(lateness)
                found = late_moments(day=day, lateness=lateness)
                self.assertEqual(found, worked(day, lateness))
                self.assertEqual(lateness, kept)
                more = late_moments(day, {thing: min(10000, number + 3) for thing, number in lateness.items()})
                self.assertTrue(all(known(found[key]) <= known(more[key]) for key in found))

    def test_an_end_moves_no_begin_and_no_gate(self):
        day = at_one_place({"ann": [("counter", "till", 10)], "bo": [("counter", "till", 4)]})
        day = changed_by(day, ("hours", "till", Hours([(0, 12), (40, 90)])))
        late = late_moments(day, {("end", ("ann", 0)): 5})
        self.assertEqual([late[("ann", 0, word)] for word in ("arrives", "begins", "ends")], [0, 0, 15])
        self.assertEqual(late[("bo", 0, "begins")], 40)
        longer = late_moments(day, {("n", ("ann", 0)): 5})
        self.assertEqual([longer[("ann", 0, word)] for word in ("arrives", "begins", "ends")], [0, 40, 55])

    def test_a_late_leg_at_once_too(self):
        day = at_one_place({"ann": [("stay", "inn", 10), ("stay", "inn", 3)]})
        late = late_moments(day, {("leg", ("ann", 1)): 10000, ("leg", ("ann", 0)): 2})
        self.assertEqual([late[("ann", k, word)] for k in (0, 1) for word in ("arrives", "begins", "ends")],
                         [2, 2, 12, 10012, 10012, 10015])

    def test_an_end_at_a_meeting_is_ones_own(self):
        day = at_one_place({"ann": [("meet", "talk")], "bo": [("meet", "talk")]})
        late = late_moments(day, {("end", ("ann", 0)): 5, ("length", "talk"): 20})
        self.assertEqual((late[("ann", 0, "ends")], late[("bo", 0, "ends")]), (25, 20))

    def test_a_late_guest_still_leaves_with_its_notice(self):
        errands = {"ann": [("room", "bath", 8)], "bo": [("stay", "inn", 5), ("room", "bath", 1)]}
        day = at_one_place(errands, notices={("ann", 0): 6})
        ends = [late_moments(day, {("end", ("ann", 0)): more})[("ann", 0, "ends")] for more in (0, 2, 3, 4, 5000)]
        self.assertEqual(ends, [8, 10, 11, 11, 11])
        both = late_moments(day, {("end", ("ann", 0)): 50, ("notice", ("ann", 0)): 10})
        self.assertEqual(both[("ann", 0, "ends")], 21)

    def test_above_the_bounds_of_told_things(self):
        day = at_one_place({"ann": [("stay", "inn", 600)]})
        day = changed_by(day, ("leaves", "ann", 9999))
        late = late_moments(day, {("leaves", "ann"): 10000, ("n", ("ann", 0)): 10000, ("end", ("ann", 0)): 10000})
        self.assertEqual(late[("ann", 0, "ends")], 9999 + 600 + 30000)

    def test_refusals(self):
        day, barred, ring = open_day(), told(), shortest_ring(told())
        self.refuses_part("day", NO_DAYS, things_of)
        self.refuses(Ring, ring, things_of, barred)
        for call in (value_of, is_thing, late_moments):
            self.refuses_part("day", NO_DAYS, lambda wrong: call(wrong, 5))
            self.refuses(Ring, ring, call, barred, 5)
        wrong = [*ODD, None, 5, [], (), [(("leaves", "ann"), 5)], ("leaves", "ann")]
        self.refuses_part("lateness", wrong, lambda lateness: late_moments(day, lateness))
        right, other = ("leaves", "ann"), ("turn", "bath")
        for number in [*NO_COUNTS, 10001]:
            self.refuses(BadNumber, number, late_moments, day, {right: 0, other: number, "x": 0})
        self.refuses(BadThing, "x", late_moments, day, {right: 0, "x": -1, other: -1})
        for thing in NO_THINGS:
            try:
                lateness = {right: 5, thing: -1, other: -1}
            except TypeError:
                continue
            self.refuses(BadThing, thing, late_moments, day, lateness)


if __name__ == "__main__":
    unittest.main()
