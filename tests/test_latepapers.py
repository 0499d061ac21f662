"""[33]: papers of what things bear, and of the worst of late things."""
import random
import sys
import unittest
from pathlib import Path

sys.path.insert(0, str(Path(__file__).parent))

from byhand import ByHand, known, some_days, worked
from checks import NO_COUNTS, NO_LISTS, NO_MOMENTS, ODD, Promises
from risingday.bearing import bears
from risingday.errors import BadIndex, BadKey, BadNumber, BadThing, Ring, TooMany
from risingday.late import layers, worst, worst_lot
from risingday.latepapers import bearing_paper, shows_bearing, shows_worst, worst_paper
from risingday.moments import moments
from risingday.needs import shortest_ring
from risingday.things import late_moments, things_of
from test_days import told
from test_keys import NO_DAYS, NO_MOMENT_KEYS
from test_late import LATE, NO_ITEMS, NO_MOST, RIGHT, some_late
from test_moments import open_day
from test_needs import at_one_place
from test_tables import no_tables, without
from test_things import NO_THINGS


def is_bearing_by_hand(day, thing, key, minute, value):
    """[33] of a tuple of three with tables of the right form."""
    most, above, below = value

    def good(lateness, table, side):
        hand = ByHand(day, lateness)
        for other, number in table.items():
            given = known(hand.gives(other, table, side))
            if known(number) < given if side is None else known(number) > given:
                return False
        return known(table.get(key, side)) <= minute if side is None else known(table.get(key, side)) > minute

    if most is None:
        return above is None and below is not None and good({}, below, 0)
    if above is None or not good({thing: most}, above, None):
        return False
    if most == 9999:
        return below is None
    return below is not None and good({thing: most + 1}, below, 0)


def is_worst_by_hand(day, late, key, most, value):
    """[33] of a tuple of three with a lot and with tables of the right form."""
    number, lot, tables = value
    extras = dict(late)
    if len(lot) > most or len(tables) != most + 1:
        return False
    if known(worked(day, {late[index][0]: late[index][1] for index in lot})[key]) < known(number):
        return False
    leavings = {thing: extra for thing, extra in late if thing[0] == "leaves"}
    for layer, table in enumerate(tables):
        hand = ByHand(day, leavings if layer else {})
        for other, told_number in table.items():
            if known(told_number) < known(hand.gives(other, table, None)):
                return False
            thing = ({"arrives": "leg", "begins": "", "ends": "end"}[other[2]], other[:2])
            if layer and thing in extras:
                slower = ByHand(day, {**(leavings if layer > 1 else {}), thing: extras[thing]})
                if known(told_number) < known(slower.gives(other, tables[layer - 1], None)):
                    return False
    return known(tables[most].get(key)) <= known(number)


def bent(chance, table):
    """The table with a number changed, or without an entry."""
    key = chance.choice(list(table))
    if chance.random() < 0.4:
        return without(table, key)
    value = table[key] or 0
    return {**table, key: chance.choice([None, 0, value + 1, max(0, value - 1), value + 50])}


def some_target(chance, day):
    own = moments(day)
    key = chance.choice(list(own))
    return key, max(0, (own[key] or 0) + chance.choice([-1, 0, 2, 9, 40]))


class Bearing(Promises):
    def test_told_papers_are_right(self):
        chance, seen = random.Random(1), set()
        for day in some_days(40, 3, 3):
            if not moments(day):
                continue
            for thing in things_of(day):
                key, minute = some_target(chance, day)
                paper = bearing_paper(day, thing, key, minute)
                most = bears(day, thing, key, minute)
                self.assertEqual((len(paper), paper[0], paper.__class__), (3, most, tuple))
                self.assertIs(shows_bearing(day, thing, key, minute, paper), True)
                self.assertIs(is_bearing_by_hand(day, thing, key, minute, paper), True)
                self.assertEqual((paper[1] is None, paper[2] is None), (most is None, most == 9999))
                seen.add(most if most in (None, 0, 9999) else 1)
        self.assertEqual(seen, {None, 0, 1, 9999})

    def test_papers_of_all_moments(self):
        for day in some_days(15, 3, 3):
            for thing in things_of(day):
                key = list(moments(day))[-1] if moments(day) else None
                if key is None or moments(day)[key] is None:
                    continue
                minute = moments(day)[key] + 4
                most = bears(day, thing, key, minute)
                below = None if most == 9999 else late_moments(day, {thing: most + 1})
                paper = (most, late_moments(day, {thing: most}), below)
                self.assertIs(shows_bearing(day, thing, key, minute, paper), True)
                self.assertIs(shows_bearing(day=day, thing=thing, key=key, minute=minute, value=(most, below, below)),
                              False)

    def test_bent_papers(self):
        chance, seen = random.Random(2), {True: 0, False: 0}
        for day in some_days(60, 3, 3):
            if not moments(day):
                continue
            for _ in range(6):
                thing = chance.choice(things_of(day))
                key, minute = some_target(chance, day)
                most, above, below = bearing_paper(day, thing, key, minute)
                values = [(most, above and bent(chance, above), below), (most, above, below and bent(chance, below)),
                          (most, below, above), (most, above, None), (most, None, below), (None, None, below),
                          (most, above, {}), (most, {}, below), (None, above, below)]
                values += [(other, above, below) for other in (0, 9999, (most or 0) + 1, max(0, (most or 0) - 1))
                           if other <= 9999]
                for value in values:
                    right = is_bearing_by_hand(day, thing, key, minute, value)
                    seen[right] += 1
                    self.assertIs(shows_bearing(day, thing, key, minute, value), right)
                    if right:
                        self.assertEqual(value[0], most)
        self.assertGreater(min(seen.values()), 50)

    def test_other_forms(self):
        day, thing, key = staying(), ("leaves", "ann"), RIGHT
        minute = moments(day)[key] + 3
        most, above, below = paper = bearing_paper(day, thing, key, minute)
        self.assertEqual(most, 3)
        for value in [*ODD, None, 5, [], (), {}, list(paper), paper[:2], (*paper, None), above]:
            self.assertIs(shows_bearing(day, thing, key, minute, value), False, value)
        for value in [*NO_COUNTS, 10000, 2, 4]:
            self.assertIs(shows_bearing(day, thing, key, minute, (value, above, below)), False, value)
        for table in [*no_tables(), None, {}, without(above, key), {**above, ("ann", 0): 5}]:
            self.assertIs(shows_bearing(day, thing, key, minute, (most, table, below)), False, table)
        for table in [*no_tables(), None, {}, without(below, key), {**below, "x": 5}]:
            self.assertIs(shows_bearing(day, thing, key, minute, (most, above, table)), False, table)

    def test_nothing_and_the_most(self):
        day = at_one_place({"ann": [("stay", "inn", 5)], "bo": [("stay", "inn", 5)]})
        own, thing = moments(day), ("leaves", "bo")
        self.assertIs(shows_bearing(day, thing, RIGHT, 4, (None, None, own)), True)
        for value in [(None, {}, own), (None, own, own), (None, None, None), (None, None, {}), (0, None, own)]:
            self.assertIs(shows_bearing(day, thing, RIGHT, 4, value), False)
        self.assertIs(shows_bearing(day, thing, RIGHT, 5, (9999, {k: own[k] for k in own if k[0] == "ann"}, None)), True)
        self.assertIs(shows_bearing(day, thing, RIGHT, 5, (9999, own, None)), False)
        self.assertIs(shows_bearing(day, thing, RIGHT, 5, (9999, {k: own[k] for k in own if k[0] == "ann"}, {})), False)
        self.assertIs(shows_bearing(day, thing, RIGHT, 5, (9998, {k: own[k] for k in own if k[0] == "ann"}, {})), False)

    def test_refusals(self):
        day, barred, ring = open_day(), told(), shortest_ring(told())
        thing = ("leaves", "ann")
        for call, rest in ((bearing_paper, ()), (shows_bearing, (5,))):
            self.refuses_part("day", NO_DAYS, lambda wrong: call(wrong, 5, 5, -1, *rest))
            self.refuses(Ring, ring, call, barred, 5, 5, -1, *rest)
            self.refuses_each(BadThing, NO_THINGS, lambda wrong: call(day, wrong, 5, -1, *rest))
            self.refuses_each(BadKey, NO_MOMENT_KEYS, lambda key: call(day, thing, key, -1, *rest))
            self.refuses_each(BadNumber, NO_COUNTS, lambda minute: call(day, thing, RIGHT, minute, *rest))


class Worst(Promises):
    def test_told_papers_are_right(self):
        chance, seen = random.Random(3), {True: 0, False: 0}
        days = [*some_days(40, 4, 3), two_desks()]
        for day in days:
            late = some_late(chance, day, 4)
            for most in range(4):
                for key in chance.sample(list(moments(day)), min(3, len(moments(day)))):
                    paper = worst_paper(day=day, late=late, key=key, most=most)
                    found = worst(day, late, most)[key]
                    there = layers(day, late, most)[most][key] == found
                    seen[there] += 1
                    self.assertIs(paper is not None, there)
                    if there:
                        self.assertEqual((paper[0], paper.__class__, len(paper[2])), (found, tuple, most + 1))
                        self.assertIs(shows_worst(day, late, key, most, paper), True)
                        self.assertIs(is_worst_by_hand(day, late, key, most, paper), True)
        self.assertGreater(seen[True], 100)

    def test_where_there_is_none(self):
        day, key = two_desks(), ("cy", 0, "begins")
        late = [(("end", ("ann", 0)), 5), (("end", ("bo", 0)), 5)]
        self.assertIsNone(worst_paper(day, late, key, 1))
        tables = layers(day, late, 1)
        for number, lot in ((10, ()), (10, (0,)), (15, (0,)), (15, (0, 1)), (15, ())):
            self.assertIs(shows_worst(day, late, key, 1, (number, lot, tables)), False)
        self.assertEqual(worst_paper(day, late, key, 2)[:2], (15, (0, 1)))
        self.assertEqual(worst_paper(day, late, key, 0)[:2], (10, ()))

    def test_bent_papers(self):
        chance, seen = random.Random(4), {True: 0, False: 0}
        for day in some_days(60, 3, 3):
            if not moments(day):
                continue
            late = some_late(chance, day, 4)
            for most in (0, 1, 2, 3):
                key = chance.choice(list(moments(day)))
                lot, number = worst_lot(day, late, key, most)
                tables = layers(day, late, most)
                at = chance.randrange(most + 1)
                lots = [lot, (), tuple(range(min(len(late), most + 1))), tuple(range(len(late)))[-1:]]
                values = [(number, lot, tables), (number, lot, tables[:-1]), (number, lot, (*tables, tables[-1])),
                          (number, lot, (*tables[:at], bent(chance, tables[at]), *tables[at + 1:])),
                          (number, lot, (*tables[:at], {}, *tables[at + 1:])), ((number or 0) + 1, lot, tables),
                          (max(0, (number or 0) - 1), lot, tables), (None, lot, tables),
                          *[(number, other, tables) for other in lots]]
                for value in values:
                    right = is_worst_by_hand(day, late, key, most, value)
                    seen[right] += 1
                    self.assertIs(shows_worst(day, late, key, most, value), right)
                    if right:
                        self.assertEqual(value[0], number)
        self.assertGreater(min(seen.values()), 100)

    def test_other_forms(self):
        day, key = staying(), RIGHT
        number, lot, tables = paper = worst_paper(day, LATE, key, 2)
        self.assertIs(shows_worst(day=day, late=tuple(LATE), key=key, most=2, value=paper), True)
        self.assertEqual(lot, (0, 1))
        for value in [*ODD, None, 5, [], (), {}, list(paper), paper[:2], (*paper, 0)]:
            self.assertIs(shows_worst(day, LATE, key, 2, value), False, value)
        for value in [*NO_MOMENTS, number + 1, number - 1, None]:
            self.assertIs(shows_worst(day, LATE, key, 2, (value, lot, tables)), False, value)
        for value in [*ODD, None, 0, [], list(lot), (1, 0), (0, 0), (1, 1), (0, 3), (-1, 0), (0, True), (False, 1), (0, None),
                      (0, "1"), ((0,), 1), (0, 1, 2), (0, 1, 1)]:
            self.assertIs(shows_worst(day, LATE, key, 2, (number, value, tables)), False, value)
        for value in [*ODD, None, 5, [], (), list(tables), tables[:2], (*tables, tables[2]), tables[0]]:
            self.assertIs(shows_worst(day, LATE, key, 2, (number, lot, value)), False, value)
        for table in [*no_tables(), None, without(tables[2], key)]:
            self.assertIs(shows_worst(day, LATE, key, 2, (number, lot, (*tables[:2], table))), False, table)
        for table in no_tables():
            self.assertIs(shows_worst(day, LATE, key, 2, (number, lot, (table, *tables[1:]))), False, table)

    def test_lots_that_are_none_though_they_make_the_number(self):
        day, late = staying(), [(("leaves", "bo"), 5), (("leaves", "ann"), 5)]
        tables = layers(day, late, 2)
        for lot, right in (((1,), True), ((0, 1), True), ((1, 1), False), ((-1,), False), ((True,), False), ((1, 0), False),
                           ([1], False)):
            self.assertIs(shows_worst(day, late, RIGHT, 2, (10, lot, tables)), right, lot)

    def test_refusals(self):
        day, barred, ring = open_day(), told(), shortest_ring(told())
        eleven = [(thing, 1) for thing in things_of(day) if thing[0] in ("leaves", "leg", "end")][:11]
        for call, rest in ((worst_paper, ()), (shows_worst, (5,))):
            self.refuses_part("day", NO_DAYS, lambda wrong: call(wrong, 5, 5, -1, *rest))
            self.refuses(Ring, ring, call, barred, 5, 5, -1, *rest)
            self.refuses_part("late", NO_LISTS, lambda wrong: call(day, wrong, 5, -1, *rest))
            for item in NO_ITEMS:
                self.refuses(BadIndex, 3, call, day, [*LATE, item], 5, -1, *rest)
            self.refuses(TooMany, 10, call, day, eleven, 5, -1, *rest)
            self.refuses_each(BadKey, NO_MOMENT_KEYS, lambda key: call(day, LATE, key, -1, *rest))
            self.refuses_each(BadNumber, NO_MOST, lambda most: call(day, LATE, RIGHT, most, *rest))


def staying():
    return at_one_place({"ann": [("stay", "inn", 5)], "bo": [("stay", "inn", 1), ("stay", "inn", 2)]})


def two_desks():
    return at_one_place({name: [("counter", "till", 10)] for name in ("ann", "bo", "cy")}, 2)


if __name__ == "__main__":
    unittest.main()
