"""[31], [32]: the worst of a few late things, and layers."""
import random
import sys
import unittest
from itertools import combinations
from pathlib import Path

sys.path.insert(0, str(Path(__file__).parent))

from byhand import ByHand, known, some_days, told as never_told, worked
from checks import NO_COUNTS, NO_LISTS, ODD, Promises
from risingday.errors import BadIndex, BadKey, BadNumber, Ring, TooMany
from risingday.late import bearable, is_promise, layers, worst, worst_lot
from risingday.moments import moments
from risingday.needs import shortest_ring
from risingday.things import things_of
from test_days import told
from test_keys import NO_DAYS, NO_MOMENT_KEYS
from test_moments import open_day
from test_needs import at_one_place
from test_things import NO_THINGS

RIGHT = ("ann", 0, "ends")
NO_MOST = [*NO_COUNTS, 4]
LATE = [(("leaves", "ann"), 5), (("leg", ("ann", 0)), 600), (("end", ("bo", 1)), 1)]
NO_ITEMS = [
    *ODD, None, 5, [], (), ("leaves", "ann"), (("leaves", "ann"),), (("leaves", "ann"), 5, 5), [("leaves", "ann"), 5],
    *[(("leaves", "ann"), extra) for extra in [*NO_COUNTS, 0, 601]], *[(thing, 5) for thing in NO_THINGS],
    (("n", ("ann", 0)), 5), (("notice", ("ann", 3)), 5), (("opens", "talk"), 5), (("length", "talk"), 5),
    (("turn", "bath"), 5),
]


def some_late(chance, day, most=6):
    things = [thing for thing in things_of(day) if thing[0] in ("leaves", "leg", "end")]
    return [(thing, chance.choice([1, 2, 5, 9, 30, 600])) for thing in chance.sample(things, min(most, len(things)))]


def lots_by_hand(late, most):
    return [lot for size in range(most + 1) for lot in combinations(range(len(late)), size)]


def worst_by_hand(day, late, most):
    """All lots with their moments."""
    return {lot: worked(day, {late[index][0]: late[index][1] for index in lot}) for lot in lots_by_hand(late, most)}


def layers_by_hand(day, late, most):
    """[32], rule by rule."""
    extras = dict(late)
    leavings = {thing: extra for thing, extra in extras.items() if thing[0] == "leaves"}
    found = []
    for layer in range(most + 1):
        hand = ByHand(day, leavings if layer else {})
        ahead = ByHand(day, leavings if layer > 1 else {})
        table = {}
        while len(table) < len(hand.moments):
            for key in hand.moments:
                if key in table or not all(need in table for need in hand.needs(key)):
                    continue
                numbers = [known(hand.gives(key, table, None))]
                thing = {"arrives": ("leg", key[:2]), "begins": None, "ends": ("end", key[:2])}[key[2]]
                if layer and thing in extras and key[2] == "arrives":
                    numbers.append(known(ahead.gives(key, found[-1], None)) + extras[thing])
                if layer and thing in extras and key[2] == "ends":
                    slower = ByHand(day, {**ahead.late, thing: extras[thing]})
                    numbers.append(known(slower.gives(key, found[-1], None)))
                table[key] = never_told(max(numbers))
        found.append({key: table[key] for key in hand.moments})
    return tuple(found)


class Worst(Promises):
    def test_all_lots_by_hand(self):
        chance = random.Random(1)
        for day in some_days(40, 3, 3):
            late = some_late(chance, day)
            for most in range(4):
                rows = worst_by_hand(day, late, most)
                found = worst(day, late, most)
                self.assertEqual(list(found), list(moments(day)))
                for key, number in found.items():
                    self.assertEqual(number, max([row[key] for row in rows.values()], key=known))
                for key in chance.sample(list(found), min(4, len(found))):
                    lot, number = worst_lot(day, late, key, most)
                    self.assertEqual(number, found[key])
                    self.assertEqual(lot, next(lot for lot, row in rows.items() if row[key] == number))
                    self.assertIs(worst_lot(day=day, late=late, key=key, most=most).__class__, tuple)
                    self.assertIs(lot.__class__, tuple)
                    for minute in {0, number or 0, max(0, (number or 0) - 1), 10 ** 7}:
                        self.assertIs(is_promise(day, late, key, minute, most), known(number) <= minute)

    def test_tuples_and_nothing_late(self):
        day = open_day()
        self.assertEqual(worst(day=day, late=[], most=3), moments(day))
        self.assertEqual(worst(day, tuple(LATE), 2), worst(day, LATE, 2))
        self.assertEqual(worst_lot(day, LATE, RIGHT, 0), ((), moments(day)[RIGHT]))
        self.assertEqual(layers(day, (), 1), (moments(day), moments(day)))

    def test_ten_late_things(self):
        day = open_day()
        late = some_late(random.Random(2), day, 10)
        self.assertEqual(len(late), 10)
        rows = worst_by_hand(day, late, 3)
        self.assertEqual(len(rows), 176)
        self.assertEqual(worst(day, late, 3),
                         {key: max([row[key] for row in rows.values()], key=known) for key in moments(day)})

    def test_the_first_lot(self):
        day = at_one_place({"ann": [("stay", "inn", 5), ("stay", "inn", 1)]})
        late = [(("leg", ("ann", 1)), 4), (("leaves", "ann"), 4), (("end", ("ann", 1)), 7)]
        self.assertEqual(worst_lot(day, late, ("ann", 0, "ends"), 3), ((1,), 9))
        self.assertEqual(worst_lot(day, late, ("ann", 1, "arrives"), 1), ((0,), 9))
        self.assertEqual(worst_lot(day, late, ("ann", 1, "ends"), 1), ((2,), 13))
        self.assertEqual(worst_lot(day, late, ("ann", 1, "ends"), 2), ((0, 2), 17))
        self.assertEqual(worst_lot(day, late, ("ann", 1, "ends"), 3), ((0, 1, 2), 21))


class Promised(Promises):
    def test_bearable(self):
        chance, seen = random.Random(3), set()
        for day in some_days(40, 3, 3):
            late = some_late(chance, day, 4)
            own = moments(day)
            for key in chance.sample(list(own), min(4, len(own))):
                worsts = [worst(day, late, most)[key] for most in range(4)]
                for minute in {number for number in worsts if number is not None} | {0, 10 ** 8}:
                    held = [most for most in range(4) if known(worsts[most]) <= minute]
                    found = bearable(day=day, late=late, key=key, minute=minute)
                    self.assertEqual(found, max(held, default=None))
                    seen.add(found)
        self.assertEqual(seen, {None, 0, 1, 2, 3})

    def test_above_what_late_has(self):
        day = at_one_place({"ann": [("stay", "inn", 5)]})
        self.assertEqual(bearable(day, [], RIGHT, 5), 3)
        self.assertIsNone(bearable(day, [], RIGHT, 4))
        self.assertEqual(bearable(day, [(("leaves", "ann"), 2)], RIGHT, 6), 0)
        self.assertEqual(bearable(day, [(("leaves", "ann"), 2)], RIGHT, 7), 3)


class Layers(Promises):
    def test_by_hand(self):
        chance = random.Random(4)
        for day in some_days(50, 3, 3):
            late = some_late(chance, day)
            wanted = layers_by_hand(day, late, 3)
            for most in range(4):
                found = layers(day=day, late=late, most=most)
                self.assertIs(found.__class__, tuple)
                self.assertEqual(found, wanted[:most + 1])
                self.assertEqual([list(table) for table in found], [list(moments(day))] * (most + 1))
            self.assertEqual(found[0], moments(day))

    def test_never_below_the_worst(self):
        chance, above = random.Random(5), 0
        for day in some_days(60, 4, 3):
            late = some_late(chance, day)
            tables = layers(day, late, 3)
            for most in range(4):
                for key, number in worst(day, late, most).items():
                    self.assertGreaterEqual(known(tables[most][key]), known(number))
                    above += tables[most][key] != number
        self.assertGreater(above, 3)

    def test_the_worst_itself_in_plain_days(self):
        chance = random.Random(6)
        for day in some_days(80, 4, 3, plain=True):
            late = some_late(chance, day)
            tables = layers(day, late, 3)
            for most in range(4):
                self.assertEqual(tables[most], worst(day, late, most))

    def test_two_desks(self):
        errands = {name: [("counter", "till", 10)] for name in ("ann", "bo", "cy")}
        day = at_one_place(errands, 2)
        late = [(("end", ("ann", 0)), 5), (("end", ("bo", 0)), 5)]
        key = ("cy", 0, "begins")
        self.assertEqual([worst(day, late, most)[key] for most in range(4)], [10, 10, 15, 15])
        self.assertEqual([table[key] for table in layers(day, late, 3)], [10, 15, 15, 15])

    def test_a_leaving_and_a_leg_of_one(self):
        day = at_one_place({"ann": [("stay", "inn", 5)]})
        late = [(("leaves", "ann"), 3), (("leg", ("ann", 0)), 4)]
        self.assertEqual([table[("ann", 0, "arrives")] for table in layers(day, late, 3)], [0, 4, 7, 7])


class Refusals(Promises):
    def test_days_and_rings(self):
        barred, ring = told(), shortest_ring(told())
        for call, rest in ((worst, (5, -1)), (worst_lot, (5, 5, -1)), (layers, (5, -1)), (is_promise, (5, 5, -1, -1)),
                           (bearable, (5, 5, -1))):
            self.refuses_part("day", NO_DAYS, lambda wrong: call(wrong, *rest))
            self.refuses(Ring, ring, call, barred, *rest)
            self.refuses_part("late", NO_LISTS, lambda wrong: call(open_day(), wrong, *rest[1:]))
            self.refuses_late(lambda late: call(open_day(), late, *rest[1:]))

    def refuses_late(self, call):
        for item in NO_ITEMS:
            self.refuses(BadIndex, 0, call, [item])
            self.refuses(BadIndex, 3, call, [*LATE, item, item])
        self.refuses(BadIndex, 3, call, [*LATE, LATE[1], 5])
        self.refuses(BadIndex, 1, call, (LATE[0], (("leaves", "ann"), 6)))
        things = [thing for thing in things_of(open_day()) if thing[0] in ("leaves", "leg", "end")]
        eleven = [(thing, 1) for thing in things[:11]]
        self.assertEqual(len(eleven), 11)
        self.refuses(TooMany, 10, call, eleven)
        self.refuses(BadIndex, 11, call, [*eleven, eleven[4]])
        self.refuses(BadIndex, 10, call, [*eleven[:10], None])

    def test_those_behind(self):
        day = open_day()
        self.refuses_each(BadNumber, NO_MOST, lambda most: worst(day, LATE, most))
        self.refuses_each(BadNumber, NO_MOST, lambda most: layers(day, LATE, most))
        self.refuses_each(BadKey, NO_MOMENT_KEYS, lambda key: worst_lot(day, LATE, key, -1))
        self.refuses_each(BadNumber, NO_MOST, lambda most: worst_lot(day, LATE, RIGHT, most))
        self.refuses_each(BadKey, NO_MOMENT_KEYS, lambda key: is_promise(day, LATE, key, -1, -2))
        self.refuses_each(BadNumber, NO_COUNTS, lambda minute: is_promise(day, LATE, RIGHT, minute, -2))
        self.refuses_each(BadNumber, NO_MOST, lambda most: is_promise(day=day, late=LATE, key=RIGHT, minute=5, most=most))
        self.refuses_each(BadKey, NO_MOMENT_KEYS, lambda key: bearable(day, LATE, key, -1))
        self.refuses_each(BadNumber, NO_COUNTS, lambda minute: bearable(day, LATE, RIGHT, minute))


if __name__ == "__main__":
    unittest.main()
