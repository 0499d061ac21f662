"""[3] (e), [25], [26], [27]: tables from below and from above, and papers of moments."""
import random
import sys
import unittest
from pathlib import Path

sys.path.insert(0, str(Path(__file__).parent))

from byhand import ByHand, known, some_days
from checks import NO_COUNTS, NO_LISTS, NO_MOMENTS, ODD, Promises
from risingday.above import (best_above, exact_paper, is_above, is_slim_above, lesser_of, limit_paper, round_above,
                             shows_at_most, shows_exact, shows_limit, slim_above)
from risingday.below import (best_below, greater_of, is_below, is_slim_below, round_below, shows_at_least,
                             slim_below)
from risingday.days import Day, changed_by
from risingday.errors import BadKey, BadNumber, BadPaper, BadPart, Ring
from risingday.moments import moments
from risingday.needs import needs_of, row_of_needs, rests_on, shortest_ring
from test_days import told
from test_keys import NO_DAYS, NO_MOMENT_KEYS
from test_moments import open_day
from test_needs import at_one_place, barred_day

BELOW, ABOVE = 0, None
GOOD = {BELOW: is_below, ABOVE: is_above}
SHOWS = {BELOW: shows_at_least, ABOVE: shows_at_most}
SLIM = {BELOW: slim_below, ABOVE: slim_above}
IS_SLIM = {BELOW: is_slim_below, ABOVE: is_slim_above}
ROUND = {BELOW: round_below, ABOVE: round_above}
JOINED = {BELOW: greater_of, ABOVE: lesser_of}
BEST = {BELOW: best_below, ABOVE: best_above}
WORD = {BELOW: "below", ABOVE: "above"}
SIDES = (BELOW, ABOVE)


def keeps(side, number, bound):
    return known(number) <= known(bound) if side == BELOW else known(number) >= known(bound)


def good_by_hand(hand, table, side):
    return all(keeps(side, number, hand.gives(key, table, side)) for key, number in table.items())


def without(table, key):
    return {other: number for other, number in table.items() if other != key}


def slim_by_hand(day, hand, key, side):
    own = hand.values()
    table = {other: own[other] for other in [key, *hand.under(key)]}
    for other in row_of_needs(day)[::-1]:
        if other != key and other in table and good_by_hand(hand, without(table, other), side):
            table = without(table, other)
    return table


def some_tables(chance, own):
    """Tables around the moments of a day: often good ones."""
    keys = list(own)
    yield {}
    yield own
    for _ in range(10):
        part = {key: own[key] for key in keys if chance.random() < chance.choice([0.3, 0.8, 0.95])}
        for key in chance.sample(list(part), min(len(part), chance.randrange(3))):
            part[key] = chance.choice([0, None, part[key], 5, max(0, (part[key] or 0) - 1), (part[key] or 0) + 1])
        yield part


def no_tables():
    right = ("ann", 0, "ends")
    return [*ODD, *NO_LISTS[:-2], [], (), [right], [(right, 5)], {"ann": 5}, {right: 0, ("ann", 0): 5},
            {("ann", 1, "ends"): 5}, {("ann", True, "ends"): 5}, {None: None}, {right: -1}, {right: True}, {right: "5"},
            {right: [5]}, {right: 0, ("bo", 1, "ends"): False}, {("zoe", 0, "ends"): 0}, {0: 0}]


class Good(Promises):
    def test_by_hand(self):
        chance, seen = random.Random(2), {True: 0, False: 0}
        for day in some_days(40, 3, 4):
            hand = ByHand(day)
            for table in some_tables(chance, moments(day)):
                for side in SIDES:
                    right = good_by_hand(hand, table, side)
                    seen[right] += 1
                    self.assertIs(GOOD[side](day, table), right)
        self.assertGreater(min(seen.values()), 100)

    def test_by_hand_a_number_changed(self):
        for day in some_days(12, 3, 3):
            hand, own = ByHand(day), moments(day)
            for key, value in own.items():
                for number in {0, None, (value or 0) + 1, max(0, (value or 0) - 1)}:
                    table = {**own, key: number}
                    for side in SIDES:
                        self.assertIs(GOOD[side](day, table), good_by_hand(hand, table, side))
                        self.assertIs(GOOD[side](day, {key: number}), good_by_hand(hand, {key: number}, side))

    def test_the_table_of_all_moments_is_both_and_the_only_one(self):
        for day in some_days(10):
            own = moments(day)
            self.assertTrue(is_below(day=day, table=own) and is_above(day=day, table=own))
            for key in own:
                for number in (0, 1, 20, None):
                    if number != own[key]:
                        table = {**own, key: number}
                        self.assertFalse(is_below(day, table) and is_above(day, table))
            self.assertTrue(is_below(day, {}) and is_above(day, {}))

    def test_no_tables(self):
        day = open_day()
        for value in no_tables():
            for side in SIDES:
                self.assertIs(GOOD[side](day, value), False, value)
                for number in (0, None, 5):
                    self.assertIs(SHOWS[side](day, ("ann", 0, "ends"), number, value), False, value)
                self.assertIs(IS_SLIM[side](day, ("ann", 0, "ends"), value), False, value)
                self.refuses(BadPaper, WORD[side], ROUND[side], day, value)
                self.refuses(BadPaper, WORD[side], JOINED[side], day, value, {})
                self.refuses(BadPaper, WORD[side], JOINED[side], day, {}, value)

    def test_a_room_that_is_turned_over(self):
        day = at_one_place({"ann": [("room", "bath", 5)], "bo": [("room", "bath", 5)]}, turn=3)
        self.assertTrue(is_below(day, {("bo", 0, "begins"): 3}))
        self.assertFalse(is_below(day, {("bo", 0, "begins"): 4}))
        self.assertEqual(best_below(day, [("bo", 0, "begins")]), {("bo", 0, "begins"): 3})
        self.assertEqual(best_above(day, [("bo", 0, "begins")]), {("bo", 0, "begins"): None})

    def test_two_desks_and_a_quorum(self):
        errands = {name: [("counter", "till", 5)] for name in ("ann", "bo", "cy")}
        day = at_one_place(errands, 2)
        ends = [("ann", 0, "ends"), ("bo", 0, "ends")]
        begin = ("cy", 0, "begins")
        self.assertIs(is_below(day, {ends[0]: 5, ends[1]: 5, begin: 5}), True)
        self.assertIs(is_below(day, {ends[0]: 5, ends[1]: 5, begin: 6}), False)
        for end in ends:
            self.assertIs(is_below(day, {end: 5, begin: 1}), False)
            self.assertIs(is_below(day, {end: 5, begin: 0}), True)
        table = {("ann", 0, word): number for word, number in (("arrives", 0), ("begins", 0), ("ends", 5))}
        table.update({("bo", 0, word): number for word, number in (("arrives", 0), ("begins", 0))})
        table.update({("cy", 0, "arrives"): 0, begin: 5})
        self.assertIs(is_above(day, table), True)
        self.assertIs(is_above(day, {**table, begin: 4}), False)
        self.assertIs(is_above(day, without(table, ("ann", 0, "ends"))), False)


class Shows(Promises):
    def test_by_hand(self):
        chance = random.Random(6)
        for day in some_days(25, 3, 3):
            hand, own = ByHand(day), moments(day)
            for table in some_tables(chance, own):
                for key in chance.sample(list(own), min(3, len(own))):
                    for side in SIDES:
                        for number in {0, None, own[key], (own[key] or 0) + 1, max(0, (own[key] or 0) - 1)}:
                            right = good_by_hand(hand, table, side) and keeps(side, number, table.get(key, side))
                            self.assertIs(SHOWS[side](day, key, number, table), right)
                            if right:
                                self.assertTrue(keeps(side, number, own[key]))

    def test_what_each_good_table_shows(self):
        day = open_day()
        key = ("ann", 0, "ends")
        for table in ({}, moments(day)):
            self.assertIs(shows_at_least(day, key, 0, table), True)
            self.assertIs(shows_at_most(day, key, None, table), True)
        self.assertIs(shows_at_least(day, key, 1, {}), False)
        self.assertIs(shows_at_most(day, key, 10 ** 9, {}), False)
        self.assertIs(shows_at_least(day, key, 0, {key: 10 ** 9}), False)
        self.assertIs(shows_at_most(day, key, None, {key: 0}), False)

    def test_any_value_as_a_number(self):
        day = open_day()
        for value in NO_MOMENTS:
            self.assertIs(shows_at_least(day, ("ann", 0, "ends"), value, moments(day)), False)
            self.assertIs(shows_at_most(day=day, key=("ann", 0, "ends"), number=value, table=moments(day)), False)


class Rounds(Promises):
    def test_by_hand(self):
        chance = random.Random(8)
        for day in some_days(25, 3, 3):
            hand, own = ByHand(day), moments(day)
            good = {side: [table for table in some_tables(chance, own) if good_by_hand(hand, table, side)]
                    for side in SIDES}
            for side in SIDES:
                for table in good[side]:
                    found = ROUND[side](day, table)
                    self.assertEqual(found, {key: hand.gives(key, table, side) for key in hand.moments})
                    self.assertTrue(good_by_hand(hand, found, side))
                    self.assertTrue(all(keeps(side, number, found[key]) for key, number in table.items()))
                    other = chance.choice(good[side])
                    pick = max if side == BELOW else min
                    joined = JOINED[side](day, table, other)
                    self.assertEqual(joined, {key: pick([t[key] for t in (table, other) if key in t], key=known)
                                              for key in {**table, **other}})
                    self.assertTrue(good_by_hand(hand, joined, side))

    def test_rounds_from_nothing_come_to_all_moments(self):
        for day in some_days(15, 3, 4):
            own = moments(day)
            for side in SIDES:
                table = {}
                for _ in range(len(own) + 1):
                    table = ROUND[side](day=day, table=table)
                self.assertEqual(table, own)

    def test_what_is_not_good(self):
        day = open_day()
        key = ("ann", 0, "ends")
        self.refuses(BadPaper, "below", round_below, day, {key: 10 ** 6})
        self.refuses(BadPaper, "below", greater_of, day, {}, {key: 10 ** 6})
        self.refuses(BadPaper, "below", greater_of, day=day, one={key: None}, other={})
        self.refuses(BadPaper, "above", round_above, day, {key: 0})
        self.refuses(BadPaper, "above", lesser_of, day, {}, {key: 0})
        self.refuses(BadPaper, "above", lesser_of, day=day, one={key: 0}, other={})

    def test_nothing_that_is_handed_in_changes(self):
        day = open_day()
        own, kept = moments(day), moments(day)
        for side in SIDES:
            ROUND[side](day, own)
            JOINED[side](day, own, {})[("ann", 0, "ends")] = 0
            JOINED[side](day, {}, own).clear()
        self.assertEqual(own, kept)


class Best(Promises):
    def test_by_hand(self):
        chance = random.Random(9)
        for day in some_days(30, 3, 3):
            hand, own = ByHand(day), moments(day)
            for _ in range(5):
                keys = [key for key in own if chance.random() < 0.6]
                chance.shuffle(keys)
                for side in SIDES:
                    table = {}
                    for key in row_of_needs(day):
                        if key in keys:
                            table[key] = hand.gives(key, table, side)
                    self.assertEqual(BEST[side](day, keys), table)
                    self.assertEqual(BEST[side](day=day, keys=tuple(keys)), table)
                    self.assertTrue(good_by_hand(hand, table, side))
                    for key in keys:
                        more = (table[key] or 0) + 1 if side == BELOW else max(0, (table[key] or 1) - 1)
                        if more != table[key] and table[key] is not None:
                            self.assertFalse(good_by_hand(hand, {**table, key: more}, side))
            for side in SIDES:
                self.assertEqual(BEST[side](day, list(own)), own)
                self.assertEqual(BEST[side](day, []), {})

    def test_refusals(self):
        day = open_day()
        right, other = ("ann", 0, "ends"), ("bo", 1, "begins")
        for side in SIDES:
            for keys in [*NO_LISTS, *[[right, key] for key in NO_MOMENT_KEYS], right, [right, right, None], {right: 5}]:
                self.refuses(BadPart, "keys", BEST[side], day, keys)
            self.refuses(BadKey, right, BEST[side], day, [right, other, right, other])
            self.refuses(BadKey, other, BEST[side], day, (right, other, other, right))
            self.refuses(Ring, shortest_ring(told()), BEST[side], told(), [5])


class Slim(Promises):
    def test_by_hand(self):
        sizes = set()
        for day in some_days(40, 4, 3):
            hand, own = ByHand(day), moments(day)
            for key in own:
                for side in SIDES:
                    table = SLIM[side](day, key)
                    self.assertEqual(table, slim_by_hand(day, hand, key, side))
                    self.assertIs(IS_SLIM[side](day, key, table), True)
                    self.assertIs(SHOWS[side](day, key, own[key], table), True)
                    sizes.add(len(table))
        self.assertTrue({1, 2, 3, 4, 5, 6} <= sizes)

    def test_whether_tables_are_slim(self):
        chance, seen = random.Random(4), {True: 0, False: 0}
        for day in some_days(40, 3, 3):
            hand, own = ByHand(day), moments(day)
            for key in chance.sample(list(own), min(4, len(own))):
                for side in SIDES:
                    tables = [*some_tables(chance, own), SLIM[side](day, key), {key: own[key]}]
                    extra = chance.choice(list(own))
                    tables.append({**tables[-2], extra: own[extra]})
                    for table in tables:
                        right = key in table and good_by_hand(hand, table, side) and not any(
                            good_by_hand(hand, without(table, other), side) for other in table if other != key)
                        seen[right] += 1
                        self.assertIs(IS_SLIM[side](day=day, key=key, table=table), right)
        self.assertGreater(min(seen.values()), 100)

    def test_a_moment_alone(self):
        day = at_one_place({"ann": [("stay", "inn", 0)]})
        key = ("ann", 0, "ends")
        self.assertEqual(slim_below(day=day, key=key), {key: 0})
        self.assertEqual(slim_above(day, key), moments(day))
        self.assertIs(is_slim_below(day, key, {}), False)
        self.assertIs(is_slim_above(day, key, {}), False)
        self.assertIs(is_slim_above(day, key, {key: None}), True)

    def test_in_a_plain_day_it_is_a_row(self):
        for day in some_days(30, 3, 4, plain=True):
            for key in moments(day):
                table = slim_below(day, key)
                row = [other for other in row_of_needs(day) if other in table]
                self.assertTrue(all(row[place - 1] in needs_of(day, row[place]) for place in range(1, len(row))))

    def test_two_desks_need_both_ends_from_below(self):
        day = at_one_place({name: [("counter", "till", 5)] for name in ("ann", "bo", "cy")}, 2)
        table = slim_below(day, ("cy", 0, "begins"))
        self.assertEqual(table, {("ann", 0, "ends"): 5, ("bo", 0, "ends"): 5, ("cy", 0, "begins"): 5})


class Papers(Promises):
    def test_exact_papers_as_told(self):
        for day in some_days(20):
            own = moments(day)
            for key in own:
                paper = exact_paper(day, key)
                self.assertEqual(paper, (own[key], slim_below(day, key), slim_above(day, key)))
                self.assertIs(paper.__class__, tuple)
                self.assertIs(shows_exact(day, key, paper), True)
                self.assertIs(shows_exact(day, key, (own[key], own, own)), True)

    def test_exact_papers_bent(self):
        day = open_day()
        key = ("ann", 0, "ends")
        number, below, above = exact_paper(day=day, key=key)
        for value in [*NO_MOMENTS, None, 0, number - 1, number + 1]:
            self.assertIs(shows_exact(day, key, (value, below, above)), False, value)
        for table in [*no_tables(), {}, without(below, key), {**below, key: number + 1}, {**below, key: number - 1}]:
            self.assertIs(shows_exact(day, key, (number, table, above)), False, table)
        for table in [*no_tables(), {}, without(above, key), {**above, key: number + 1}, {**above, key: number - 1}]:
            self.assertIs(shows_exact(day, key, (number, below, table)), False, table)
        for value in [*ODD, None, 5, [], (), {}, [number, below, above], (number, below), (number, below, above, 0),
                      (number, above, below), below]:
            self.assertIs(shows_exact(day, key, value), False, value)
        self.assertIs(shows_exact(day=day, key=("bo", 1, "ends"), paper=(number, below, above)), False)

    def test_an_exact_paper_of_nought_and_of_never(self):
        day = at_one_place({"ann": [("stay", "inn", 0)]})
        key = ("ann", 0, "arrives")
        self.assertIs(shows_exact(day, key, (0, {}, {key: 0})), True)
        self.assertIs(shows_exact(day, key, (0, {}, {})), False)
        for day in some_days(60):
            for key, value in moments(day).items():
                if value is None:
                    self.assertIs(shows_exact(day, key, (None, moments(day), {})), True)
                    self.assertIs(shows_exact(day, key, (None, {}, {})), False)

    def test_limit_papers_as_told(self):
        words = set()
        for day in some_days(20):
            own = moments(day)
            for key in own:
                for limit in {0, own[key] or 0, max(0, (own[key] or 0) - 1), (own[key] or 0) + 1, 10 ** 6}:
                    paper = limit_paper(day, key, limit)
                    words.add(paper[0])
                    if known(own[key]) <= limit:
                        self.assertEqual(paper, ("kept", key, limit, slim_above(day, key)))
                    else:
                        self.assertEqual(paper, ("broken", key, limit, slim_below(day, key)))
                    self.assertIs(shows_limit(day, paper), True)
                    turned = "broken" if paper[0] == "kept" else "kept"
                    self.assertIs(shows_limit(day, (turned, *paper[1:])), False)
                    self.assertIs(shows_limit(day, (turned, key, limit, own)), False)
                    self.assertIs(shows_limit(day, (*paper[:3], own)), True)
        self.assertEqual(words, {"kept", "broken"})

    def test_limit_papers_bent(self):
        day = open_day()
        key = ("ann", 0, "ends")
        number, below, above = exact_paper(day, key)
        kept, broken = ("kept", key, number, above), ("broken", key, number - 1, below)
        self.assertEqual((limit_paper(day=day, key=key, limit=number), limit_paper(day, key, number - 1)), (kept, broken))
        self.assertIs(shows_limit(day=day, paper=kept), True)
        for paper in (kept, broken):
            word, _, limit, table = paper
            for value in [*NO_COUNTS]:
                self.assertIs(shows_limit(day, (word, key, value, table)), False, value)
            for value in NO_MOMENT_KEYS:
                self.assertIs(shows_limit(day, (word, value, limit, table)), False, value)
            for value in [*ODD, None, 5, "Kept", "break", ["kept"], ("kept",)]:
                self.assertIs(shows_limit(day, (value, key, limit, table)), False, value)
            for value in [*no_tables(), {}, without(table, key), {**table, key: None if word == "kept" else 0}]:
                self.assertIs(shows_limit(day, (word, key, limit, value)), False, value)
            self.assertIs(shows_limit(day, list(paper)), False)
            self.assertIs(shows_limit(day, paper[:3]), False)
            self.assertIs(shows_limit(day, (*paper, 0)), False)
        self.assertIs(shows_limit(day, ("kept", key, number - 1, above)), False)
        self.assertIs(shows_limit(day, ("broken", key, number, below)), False)
        self.assertIs(shows_limit(day, ("kept", key, number + 1, above)), True)
        self.assertIs(shows_limit(day, ("broken", key, number - 2, below)), True)
        for value in [*ODD, None, 5, [], (), {}]:
            self.assertIs(shows_limit(day, value), False)


class Refusals(Promises):
    def test_keys_ahead_of_rings_ahead_of_all_else(self):
        barred, ring = told(), shortest_ring(told())
        right = ("ann", 0, "ends")
        calls = [lambda day, key: slim_below(day, key), lambda day, key: slim_above(day, key),
                 lambda day, key: shows_at_least(day, key, -1, 5), lambda day, key: shows_at_most(day, key, -1, 5),
                 lambda day, key: is_slim_below(day, key, 5), lambda day, key: is_slim_above(day, key, 5),
                 lambda day, key: exact_paper(day, key), lambda day, key: shows_exact(day, key, 5),
                 lambda day, key: limit_paper(day, key, -1)]
        for call in calls:
            for key in NO_MOMENT_KEYS:
                self.refuses(BadKey, key, call, barred, key)
                self.refuses(BadKey, key, call, open_day(), key)
            self.refuses(Ring, ring, call, barred, right)
        for call in (is_below, is_above, round_below, round_above, shows_limit):
            self.refuses(Ring, ring, call, barred, 5)
            self.refuses(Ring, ring, call, barred, {})
        for call in (greater_of, lesser_of):
            self.refuses(Ring, ring, call, barred, 5, 5)
        self.refuses(Ring, shortest_ring(barred_day()), is_below, barred_day(), {})

    def test_limits(self):
        self.refuses_each(BadNumber, NO_COUNTS, lambda limit: limit_paper(open_day(), ("ann", 0, "ends"), limit))

    def test_an_empty_day(self):
        for side in SIDES:
            self.assertIs(GOOD[side](Day(), {}), True)
            self.assertEqual((ROUND[side](Day(), {}), JOINED[side](Day(), {}, {}), BEST[side](Day(), [])), ({}, {}, {}))
            self.assertIs(GOOD[side](Day(), {("ann", 0, "ends"): 5}), False)

    def test_no_day(self):
        for day in NO_DAYS:
            self.refuses(BadPart, "day", is_below, day, {})

    def test_a_day_that_is_changed_has_other_tables(self):
        day = open_day()
        later = changed_by(day, ("leaves", "ann", 20))
        self.assertIs(is_below(later, moments(day)), True)
        self.assertIs(is_above(day, moments(later)), True)
        self.assertIs(is_above(later, moments(day)), False)
        self.assertEqual(rests_on(day, ("bo", 1, "begins")), rests_on(later, ("bo", 1, "begins")))


if __name__ == "__main__":
    unittest.main()
