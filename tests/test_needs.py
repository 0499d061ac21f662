"""[9], [22]: needs, rings, the row of needs, and groups."""
import random
import sys
import unittest
from pathlib import Path

sys.path.insert(0, str(Path(__file__).parent))

from byhand import ByHand, some_day, some_days
from checks import NO_LISTS, ODD, Promises
from risingday.counters import Counter
from risingday.days import Day, changed_by
from risingday.errors import BadKey, Ring
from risingday.meetings import Meeting
from risingday.needs import (does_rest, does_stand, free_keys, groups, hangs_on, is_barred, needs_of, rests_on,
                             row_of_needs, shortest_ring)
from risingday.people import Person
from risingday.places import Ways
from risingday.rising import stay
from risingday.rooms import Room
from test_days import told
from test_keys import NO_DAYS, NO_MOMENT_KEYS


def at_one_place(errands, desks=1, orders=None, notices=None, turn=0, quorum=1):
    """A day at one place: errands a dict from names to errands, orders those of the counter and of the room."""
    people = [Person(name, "inn", 0, row) for name, row in errands.items()]
    at = {"till": [], "bath": []}
    meets = False
    for person in people:
        for key in person.own_keys():
            at.setdefault(person.errands[key[1]][1], []).append(key)
            meets = meets or person.errands[key[1]][0] == "meet"
    at.update(orders or {})
    meetings = [Meeting("talk", "inn", 0, 0, quorum)] if meets else []
    return Day(people, None, [Counter("till", "inn", desks, None, at["till"])], meetings,
               [Room("bath", "inn", turn, at["bath"], notices)])


def barred_day():
    """Two people who wait for each other, and one who does not."""
    return at_one_place({"ann": [("counter", "till", 5), ("room", "bath", 5)],
                         "bo": [("stay", "inn", 1), ("room", "bath", 5), ("counter", "till", 5)],
                         "cy": [("stay", "inn", 2)]},
                        orders={"till": [("bo", 2), ("ann", 0)], "bath": [("ann", 1), ("bo", 1)]})


def barred_days(many):
    found, seed = [], 0
    while len(found) < many:
        day = some_day(seed, 4, 4, wild=True)
        hand = ByHand(day)
        if len(hand.values()) < len(hand.moments):
            found.append(day)
        seed += 1
    return found


def rings_by_hand(hand):
    """The least of the shortest rings, by going through all rows of unlike moments."""
    place = hand.moments.index
    needs = {key: hand.needs(key) for key in hand.moments}
    for size in range(1, len(hand.moments) + 1):
        found = []

        def go_on(row):
            if len(row) == size:
                if row[0] in needs[row[-1]]:
                    found.append(row)
                return
            for need in needs[row[-1]]:
                if need not in row and place(need) > place(row[0]):
                    go_on([*row, need])

        for key in hand.moments:
            go_on([key])
        if found:
            return min(found, key=lambda row: [place(key) for key in row])
    return None


class Needs(Promises):
    def test_an_errand_to_stay(self):
        day = at_one_place({"ann": [("stay", "inn", 5), None, ("stay", "inn", 6)]})
        self.assertEqual(needs_of(day, ("ann", 0, "arrives")), [])
        self.assertEqual(needs_of(day, ("ann", 0, "begins")), [("ann", 0, "arrives")])
        self.assertEqual(needs_of(day, ("ann", 0, "ends")), [("ann", 0, "begins")])
        self.assertEqual(needs_of(day, ("ann", 2, "arrives")), [("ann", 0, "ends")])
        struck = changed_by(day, ("struck", ("ann", 0)))
        self.assertEqual(needs_of(struck, ("ann", 2, "arrives")), [])

    def test_counters_with_several_desks(self):
        errands = {name: [("counter", "till", 5)] for name in ("ann", "bo", "cy", "di")}
        order = [("di", 0), ("ann", 0), ("cy", 0), ("bo", 0)]
        rows = {1: [0, 1, 2, 3], 2: [0, 0, 2, 3], 3: [0, 0, 0, 3]}
        for desks, waited in rows.items():
            day = at_one_place(errands, desks, {"till": order})
            for place, key in enumerate(order):
                wanted = {(*key, "arrives")}
                if place:
                    wanted.add((*order[place - 1], "begins"))
                wanted |= {(*other, "ends") for other in order[:waited[place]]}
                found = needs_of(day, (*key, "begins"))
                self.assertEqual((set(found), len(found)), (wanted, len(wanted)))
                self.assertEqual(found, sorted(found))
                self.assertEqual(needs_of(day, (*key, "ends")), [(*key, "begins")])

    def test_meetings(self):
        day = at_one_place({"bo": [("stay", "inn", 1), ("meet", "talk")], "ann": [("meet", "talk")], "cy": []})
        arrivals = [("bo", 1, "arrives"), ("ann", 0, "arrives")]
        for key in (("bo", 1), ("ann", 0)):
            self.assertEqual(needs_of(day, (*key, "begins")), arrivals)
            self.assertEqual(needs_of(day, (*key, "ends")), [(*key, "arrives"), (*key, "begins")])

    def test_rooms_and_guests(self):
        errands = {"ann": [("room", "bath", 5)], "bo": [("room", "bath", 5)], "cy": [("room", "bath", 5)]}
        order = [("cy", 0), ("ann", 0), ("bo", 0)]
        day = at_one_place(errands, orders={"bath": order}, notices={("cy", 0): 0, ("bo", 0): 5})
        self.assertEqual(needs_of(day, ("cy", 0, "begins")), [("cy", 0, "arrives")])
        self.assertEqual(needs_of(day, ("ann", 0, "begins")), [("ann", 0, "arrives"), ("cy", 0, "ends")])
        self.assertEqual(needs_of(day, ("bo", 0, "begins")), [("ann", 0, "ends"), ("bo", 0, "arrives")])
        self.assertEqual(needs_of(day, ("cy", 0, "ends")), [("ann", 0, "arrives"), ("cy", 0, "begins")])
        self.assertEqual(needs_of(day, ("ann", 0, "ends")), [("ann", 0, "begins")])
        self.assertEqual(needs_of(day, ("bo", 0, "ends")), [("bo", 0, "begins")])

    def test_days_by_chance_by_hand(self):
        for seed in range(60):
            day = some_day(seed, 3, 4, wild=True)
            hand = ByHand(day)
            under = {key: hand.under(key) for key in hand.moments}
            for key in hand.moments:
                self.assertEqual(needs_of(day, key), hand.needs(key))
                self.assertEqual(rests_on(day, key), under[key])
                self.assertEqual(hangs_on(day, key), [other for other in hand.moments if key in under[other]])
                for other in hand.moments:
                    self.assertIs(does_rest(day, key, other), other in under[key])

    def test_lists_that_are_changed(self):
        day = at_one_place({"ann": [("stay", "inn", 5)]})
        for call, key in ((needs_of, ("ann", 0, "ends")), (rests_on, ("ann", 0, "ends")), (hangs_on, ("ann", 0, "arrives"))):
            self.assertIs(call(day, key).__class__, list)
            call(day, key).clear()
            self.assertTrue(call(day=day, key=key))
        row_of_needs(day).clear()
        free_keys(day).clear()
        self.assertEqual(row_of_needs(day=day), [("ann", 0, "arrives"), ("ann", 0, "begins"), ("ann", 0, "ends")])
        self.assertEqual(len(free_keys(day=day)), 3)

    def test_refusals(self):
        day = told()
        for call in (needs_of, rests_on, hangs_on):
            self.refuses_each(BadKey, NO_MOMENT_KEYS, lambda key: call(day, key))
            self.refuses_part("day", NO_DAYS, lambda wrong: call(wrong, 5))
        right = ("ann", 0, "ends")
        self.refuses_each(BadKey, NO_MOMENT_KEYS, lambda key: does_rest(day, key, 7))
        self.refuses_each(BadKey, NO_MOMENT_KEYS, lambda key: does_rest(day=day, key=right, other=key))
        self.refuses_part("day", NO_DAYS, lambda wrong: does_rest(wrong, 5, 5))
        for call in (shortest_ring, is_barred, free_keys, row_of_needs, groups):
            self.refuses_part("day", NO_DAYS, call)
        self.refuses_part("day", NO_DAYS, lambda wrong: does_stand(wrong, 5))


class Rings(Promises):
    def test_a_barred_day(self):
        day = barred_day()
        # bo waits for the bath until ann has left it, ann for the till until bo has left it.
        ring = [("ann", 0, "begins"), ("bo", 2, "begins"), ("bo", 2, "arrives"), ("bo", 1, "ends"), ("bo", 1, "begins"),
                ("ann", 1, "ends"), ("ann", 1, "begins"), ("ann", 1, "arrives"), ("ann", 0, "ends")]
        self.assertEqual(shortest_ring(day), ring)
        self.assertIs(shortest_ring(day).__class__, list)
        self.assertIs(is_barred(day), True)
        self.assertEqual(free_keys(day), [("ann", 0, "arrives"), *[("bo", 0, word) for word in ("arrives", "begins", "ends")],
                                          ("bo", 1, "arrives"), *[("cy", 0, word) for word in ("arrives", "begins", "ends")]])
        self.refuses(Ring, ring, row_of_needs, day)
        for key in ring:
            self.assertIs(does_rest(day, key, key), True)
            self.assertIn(key, rests_on(day, key))
            self.assertIn(key, hangs_on(day, key))

    def test_a_guest_waits_for_oneself(self):
        errands = {"ann": [("room", "bath", 5), ("room", "bath", 5)]}
        day = at_one_place(errands, notices={("ann", 0): 3})
        self.assertEqual(shortest_ring(day), [("ann", 0, "ends"), ("ann", 1, "arrives")])
        self.assertIs(is_barred(at_one_place(errands)), False)
        self.assertIsNone(shortest_ring(at_one_place(errands)))

    def test_the_least_of_several_rings(self):
        errands = {"bo": [("counter", "till", 1), ("counter", "till", 1)], "ann": [("room", "bath", 1), ("room", "bath", 1)]}
        day = at_one_place(errands, orders={"till": [("bo", 1), ("bo", 0)], "bath": [("ann", 1), ("ann", 0)]})
        till = [("bo", 0, "begins"), ("bo", 1, "begins"), ("bo", 1, "arrives"), ("bo", 0, "ends")]
        self.assertEqual(shortest_ring(day), till)
        both = at_one_place(errands, notices={("ann", 0): 0}, orders={"till": [("bo", 1), ("bo", 0)]})
        self.assertEqual(shortest_ring(both), [("ann", 0, "ends"), ("ann", 1, "arrives")])

    def test_barred_days_by_chance_by_hand(self):
        longest = 0
        for day in barred_days(25):
            hand = ByHand(day)
            ring = shortest_ring(day)
            self.assertEqual(ring, rings_by_hand(hand))
            longest = max(longest, len(ring))
            self.assertIs(is_barred(day), True)
            self.assertEqual(free_keys(day), list(hand.values()))
            self.refuses(Ring, ring, row_of_needs, day)
            self.assertIs(does_stand(day, hand.moments), False)
        self.assertGreater(longest, 3)

    def test_days_that_are_not_barred(self):
        for day in [Day(), *some_days(20)]:
            hand = ByHand(day)
            self.assertIsNone(shortest_ring(day))
            self.assertIs(is_barred(day), False)
            self.assertEqual(free_keys(day), hand.moments)


class Rows(Promises):
    def test_each_time_the_least_one_that_can_stand(self):
        for day in [Day(), *some_days(25, 4, 4)]:
            hand = ByHand(day)
            row = []
            while len(row) < len(hand.moments):
                row.append(next(key for key in hand.moments if key not in row and all(n in row for n in hand.needs(key))))
            self.assertEqual(row_of_needs(day), row)
            self.assertIs(does_stand(day, row), True)

    def test_what_is_no_standing_row(self):
        day = at_one_place({"bo": [("counter", "till", 5), ("stay", "inn", 1)], "ann": [("counter", "till", 5)]})
        row = row_of_needs(day)
        self.assertIs(does_stand(day=day, value=row), True)
        for value in [tuple(row), row[:-1], row[1:], [*row, row[0]], [*row, row[-1]], [*row[:-1], row[0]], [*row, ("zoe", 0, "ends")],
                      [*row[:-1], ("zoe", 0, "ends")], [*row[:-1], None], [list(key) for key in row], [], *NO_LISTS, *ODD,
                      [*row[:-1], (row[-1][0], True, row[-1][2])], {key: True for key in row}, [[]]]:
            self.assertIs(does_stand(day, value), False, value)
        for one in range(len(row)):
            for other in range(one):
                turned = list(row)
                turned[one], turned[other] = row[other], row[one]
                right = all(turned.index(need) < turned.index(key) for key in turned for need in needs_of(day, key))
                self.assertIs(does_stand(day, turned), right)
        self.assertIs(does_stand(Day(), []), True)
        self.assertIs(does_stand(Day(), ()), False)

    def test_other_rows_stand_too(self):
        chance = random.Random(5)
        for day in some_days(15, 4, 4):
            hand = ByHand(day)
            for _ in range(5):
                row = []
                while len(row) < len(hand.moments):
                    row.append(chance.choice([key for key in hand.moments if key not in row
                                              and all(need in row for need in hand.needs(key))]))
                self.assertIs(does_stand(day, row), True)


class Groups(Promises):
    def test_who_is_together(self):
        day = at_one_place({"bo": [("counter", "till", 5)], "cy": [("stay", "inn", 5)], "ann": [("room", "bath", 5)],
                            "di": [("room", "bath", 1), ("counter", "till", 5)], "flo": [], "ed": [("meet", "talk")]})
        self.assertEqual(groups(day=day), [["bo", "ann", "di"], ["cy"], ["flo"], ["ed"]])
        self.assertEqual(groups(Day()), [])
        self.assertIs(groups(day)[0].__class__, list)

    def test_meetings_and_struck_errands(self):
        day = at_one_place({"bo": [("meet", "talk")], "cy": [("stay", "inn", 5)], "ann": [("meet", "talk")]})
        self.assertEqual(groups(day), [["bo", "ann"], ["cy"]])
        self.assertEqual(groups(changed_by(day, ("struck", ("ann", 0)))), [["bo"], ["cy"], ["ann"]])

    def test_of_barred_days_and_by_chance(self):
        self.assertEqual(groups(barred_day()), [["ann", "bo"], ["cy"]])
        for seed in range(40):
            day = some_day(seed, 5, 2, wild=True)
            hand = ByHand(day)
            lots = [{name} for name in hand.people]
            for key in hand.moments:
                for need in hand.needs(key):
                    one = next(lot for lot in lots if key[0] in lot)
                    other = next(lot for lot in lots if need[0] in lot)
                    if one is not other:
                        lots.remove(other)
                        one |= other
            names = list(hand.people)
            wanted = sorted([sorted(lot, key=names.index) for lot in lots], key=lambda lot: names.index(lot[0]))
            self.assertEqual(groups(day), wanted)

    def test_ways_make_nobody_touch(self):
        day = Day([Person("ann", "a", 0, [("stay", "b", 1)]), Person("bo", "a", 0, [("stay", "b", 1)])],
                  Ways({("a", "b"): stay()}))
        self.assertEqual(groups(day), [["ann"], ["bo"]])


if __name__ == "__main__":
    unittest.main()
