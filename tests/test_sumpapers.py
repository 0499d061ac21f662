"""[3] (g), [11], [37]: papers for all minutes of leaving."""
import random
import sys
import unittest
from pathlib import Path

sys.path.insert(0, str(Path(__file__).parent))

from byhand import ByHand, known
from checks import NO_COUNTS, ODD, Promises
from risingday.alike import difference
from risingday.days import Day, changed_by
from risingday.errors import BadPart, DayError, NotSo, Ring
from risingday.needs import shortest_ring
from risingday.people import Person
from risingday.rising import Rising, stay, steady
from risingday.summaries import Summary
from risingday.sumpapers import accepts_apart, apart_paper, is_lower, is_right, is_upper, table_of
from test_alike import LAST, NOT_PLAIN, at_leaves, pairs_of_days
from test_chains import plain_day
from test_days import told
from test_keys import NO_DAYS, NO_MOMENT_KEYS
from test_summaries import NO_TOLD_MINUTES, all_at, example, plain_days
from test_tables import without

JUDGES = (is_right, is_upper, is_lower)
KEY = ("bob", 0, "begins")


def judged(day, table):
    return tuple(judge(day, table) for judge in JUDGES)


def given_by(row, leaves):
    """What a row of a table gives for leaves."""
    number, maps = row
    return max([known(number), *[known(Rising(rows)(leaves[name])) for name, rows in maps.items()]])


def leaves_tried(day):
    """All at 0, and all but one."""
    yield all_at(day, 0)
    for person in day.persons():
        for minute in [*range(1, LAST), 9998, 9999]:
            yield all_at(day, 0, **{person.name: minute})


def judged_by_trying(day, table):
    """What the judges tell, by leaves."""
    right, upper, lower = set(table) == set(ByHand(day).moments), True, True
    for leaves in leaves_tried(day):
        hand = ByHand(day, {("leaves", person.name): leaves[person.name] - person.leaves for person in day.persons()})
        values = {key: given_by(row, leaves) for key, row in table.items()}
        for key, value in values.items():
            above = hand.rule(key, lambda other: values.get(other, known(None)))
            below = hand.rule(key, lambda other: values.get(other, 0))
            right = right and value == above
            upper = upper and value >= above
            lower = lower and value <= below
    return right, upper, lower


def bent_rows(chance, rows):
    """The rows of a map with one number made other, if they are a map then."""
    place = chance.randrange(len(rows))
    start, value, grows = rows[place]
    row = chance.choice([(start, None if value is None else max(0, value + chance.choice([-3, -1, 1, 4, 30])), grows),
                         (start + chance.choice([-1, 1, 2]), value, grows), (start, value, not grows)])
    changed = [*rows[:place], row, *rows[place + 1:]]
    if chance.random() < 0.2:
        changed = [*rows[:place], *rows[place + 1:]]
    try:
        return Rising(changed).rows
    except DayError:
        return rows


def bent(chance, day, table):
    """The table with one thing made greater, less, left out, or too many."""
    key = chance.choice(list(table))
    number, maps = table[key]
    kind = chance.randrange(7)
    if kind == 0:
        return {other: row for other, row in table.items() if other != key}
    if kind in (1, 2) or not maps:
        number = chance.choice([None, max(0, (number or 0) + chance.choice([-30, -2, -1, 1, 2, 40]))])
    elif kind == 3:
        maps = without(maps, chance.choice(list(maps)))
    elif kind == 4:
        maps = {**maps, chance.choice(day.persons()).name: chance.choice([stay(), steady(3), steady(400)]).rows}
    else:
        name = chance.choice(list(maps))
        maps = {**maps, name: bent_rows(chance, maps[name])}
    return {**table, key: (number, maps)}


class Tables(Promises):
    def test_told_rows(self):
        for day in plain_days(30):
            table = table_of(day)
            summary = Summary(day)
            self.assertEqual(list(table), summary.moment_keys())
            for key, (number, maps) in table.items():
                self.assertEqual((number, list(maps)), (summary.number_of(key), summary.names_of(key)))
                for name, rows in maps.items():
                    self.assertEqual(rows, summary.map_of(key, name).rows)
                    self.assertIs(rows.__class__, tuple)
            self.assertEqual(judged(day, table), (True, True, True))
        self.assertEqual(table_of(example())[KEY], (15, {"ann": ((0, 15, True),), "bob": ((0, 3, True),)}))

    def test_alike_rows_are_right_too(self):
        day = example()
        table = table_of(day)
        # Bob's own number is what he comes to, if he leaves at 0: it may be told as well.
        for row in [(0, {"ann": ((0, 15, True),), "bob": ((0, 3, True),)}), (15, {"ann": ((0, 15, True),), "bob": ((0, 0, True), (10, 13, True))}),
                    (15, {"ann": ((0, 15, True), (10000, 20000, True)), "bob": ((0, 3, True),)})]:
            self.assertEqual(judged(day, {**table, KEY: row}), (True, True, True), row)
        for row in [(16, {"ann": ((0, 15, True),), "bob": ((0, 3, True),)}),
                    (15, {"ann": ((0, 15, True), (9999, 20000, True)), "bob": ((0, 3, True),)})]:
            self.assertEqual(is_right(day, {**table, KEY: row}), False, row)

    def test_against_trying_leaves(self):
        chance = random.Random(4)
        seen = set()
        for day in plain_days(11, 2, 2):
            if not day.all_keys():
                continue
            table = table_of(day)
            for turn in range(7):
                other = bent(chance, day, table)
                found = judged(day, other)
                self.assertEqual(found, judged_by_trying(day, other), other)
                seen.add(found)
                if turn % 3 == 2 and len(other) > 1:
                    table = other
        self.assertTrue({(True, True, True), (False, True, False), (False, False, True), (False, False, False)} <= seen)

    def test_upper_and_lower_tables_of_some_moments(self):
        day = example()
        table = table_of(day)
        key = ("ann", 0, "ends")
        # Ann's end from above needs her begin, and that her arrival; from below it can be told alone.
        alone = {key: (10, {"ann": ((0, 10, True),)})}
        self.assertEqual(judged(day, alone), (False, False, False))
        self.assertEqual(judged(day, {key: (10, {})}), (False, False, True))
        self.assertEqual(judged(day, {key: (11, {})}), (False, False, False))
        self.assertEqual(judged(day, {key: (None, {})}), (False, True, False))
        self.assertEqual(judged(day, {key: (None, {"zoe": ((0, 10, True),)})}), (False, False, False))
        three = {other: table[other] for other in table if other[0] == "ann"}
        self.assertEqual(judged(day, three), (False, True, True))
        self.assertEqual(judged(day, {other: row for other, row in three.items() if other[2] != "arrives"}),
                         (False, False, False))
        self.assertEqual(judged(day, {other: (None, {}) for other in table}), (False, True, False))
        self.assertEqual(judged(day, {other: (0, {}) for other in table}), (False, False, True))

    def test_empty_tables(self):
        self.assertEqual(judged(example(), {}), (False, True, True))
        self.assertEqual(judged(Day(), {}), (True, True, True))
        self.assertEqual(table_of(Day()), {})

    def test_for_all_leaves_at_once(self):
        chance = random.Random(6)
        many = 0
        for day in plain_days(25, 2, 2):
            if not day.all_keys():
                continue
            table = table_of(day)
            for _ in range(12):
                other = bent(chance, day, table)
                leaves = {person.name: chance.randrange(99) for person in day.persons()}
                values = at_leaves(day, leaves)
                if is_upper(day, other):
                    many += 1
                    self.assertTrue(all(given_by(row, leaves) >= known(values[key]) for key, row in other.items()))
                if is_lower(day, other):
                    many += 1
                    self.assertTrue(all(given_by(row, leaves) <= known(values[key]) for key, row in other.items()))
        self.assertGreater(many, 30)

    def test_values_that_are_no_tables(self):
        day = example()
        table = table_of(day)
        maps = table[KEY][1]
        rows = maps["ann"]
        for value in [*ODD, None, 5, [], (), list(table.items()), (table,)]:
            self.assertEqual(judged(day, value), (False, False, False), value)
        for key in NO_MOMENT_KEYS:
            if not isinstance(key, (list, dict, set)) and not (isinstance(key, tuple) and any(
                    isinstance(part, (list, dict)) for part in key)) and key not in table:
                self.assertEqual(judged(day, {**table, key: table[KEY]}), (False, False, False), key)
        true_key = {("bob", False, "begins") if key == KEY else key: row for key, row in table.items()}
        self.assertEqual(judged(day, true_key), (False, False, False))
        wrong = [*ODD, None, 15, [15, maps], (15,), (15, maps, 0), (True, maps), (-1, maps), ("15", maps), (15, None),
                 (15, []), (15, list(maps.items())), (15, {**maps, "zoe": rows}), (15, {**maps, 5: rows}),
                 (15, {**maps, ("ann",): rows}), (15, {"ann": list(rows), "bob": maps["bob"]}),
                 (15, {**maps, "ann": ()}), (15, {**maps, "ann": ([0, 15, True],)}), (15, {**maps, "ann": None}),
                 (15, {**maps, "ann": Rising(rows)}), (15, {**maps, "ann": ((False, 15, True),)}),
                 (15, {**maps, "ann": ((0, 15, 1),)}), (15, {**maps, "ann": ((0, 15, False),)}),
                 (15, {**maps, "ann": ((0, 15, True), (3, 18, True))}), (15, {**maps, "ann": ((0, 15, False), (1, 16, True))}),
                 (15, {**maps, "ann": ((0, 15, True, 0),)}), (15, {**maps, "ann": ((0, 15),)}), (15, {**maps, "ann": {0: rows}}),
                 (15, {**maps, "ann": ((0, 15, True), (9, 5, True))})]
        for row in wrong:
            self.assertEqual(judged(day, {**table, KEY: row}), (False, False, False), row)

    def test_what_is_handed_out_and_changed_later(self):
        day = example()
        table = table_of(day)
        table[KEY][1].clear()
        table.clear()
        self.assertEqual(len(table_of(day)[KEY][1]), 2)
        self.assertEqual(judged(day, table_of(day=day)), (True, True, True))

    def test_refusals(self):
        for call in (table_of, lambda day: is_right(day, {}), lambda day: is_upper(day, 5), lambda day: is_lower(day, [])):
            self.refuses_part("day", NO_DAYS, call)
            self.refuses(Ring, shortest_ring(told()), call, told())
            self.refuses(NotSo, "summary", call, NOT_PLAIN)


class Apart(Promises):
    def test_told_papers(self):
        many = 0
        for day, other in pairs_of_days(50, 11):
            paper = apart_paper(day, other)
            self.assertEqual(paper, difference(day, other))
            if paper is None:
                self.assertIs(accepts_apart(day, other, None), False)
                continue
            many += 1
            self.assertIs(accepts_apart(day, other, paper), True)
            self.assertIs(accepts_apart(one=other, other=day, paper=paper), True)
        self.assertGreater(many, 15)

    def test_bent_papers(self):
        chance = random.Random(5)
        seen = set()
        for day, other in pairs_of_days(40, 12):
            for _ in range(8):
                key = chance.choice(ByHand(day).moments)
                leaves = {person.name: chance.choice([0, 5, chance.randrange(99), 9999]) for person in day.persons()}
                apart = at_leaves(day, leaves)[key] != at_leaves(other, leaves)[key]
                seen.add(apart)
                turned = dict(reversed(list(leaves.items())))
                self.assertIs(accepts_apart(day, other, (key, turned)), apart)
        self.assertEqual(seen, {True, False})

    def test_any_value(self):
        day = example()
        other = changed_by(day, ("n", ("ann", 0), 12))
        key, leaves = apart_paper(one=day, other=other)
        self.assertEqual((key, leaves), (("ann", 0, "ends"), {"ann": 0, "bob": 0}))
        self.assertIs(accepts_apart(day, other, (key, leaves)), True)
        self.assertIs(accepts_apart(day, other, (("ann", 0, "begins"), leaves)), False)
        for value in [*ODD, None, 5, [], (), [key, leaves], (key,), (key, leaves, 0), (leaves, key)]:
            self.assertIs(accepts_apart(day, other, value), False, value)
        for wrong in NO_MOMENT_KEYS:
            if wrong != ("ann", 0, "ends"):
                self.assertIs(accepts_apart(day, other, (wrong, leaves)), False, wrong)
        self.assertIs(accepts_apart(day, other, (("ann", False, "ends"), leaves)), False)
        for wrong in [None, 5, [], ["ann", "bob"], {}, {"ann": 0}, {**leaves, "zoe": 0}, {"ann": 0, "zoe": 0}, list(leaves.items())]:
            self.assertIs(accepts_apart(day, other, (key, wrong)), False, wrong)
        for wrong in NO_TOLD_MINUTES:
            self.assertIs(accepts_apart(day, other, (key, {**leaves, "bob": wrong})), False, wrong)

    def test_refusals(self):
        day = example()
        for call in (apart_paper, lambda one, other: accepts_apart(one, other, 5)):
            self.refuses_part("day", NO_DAYS, lambda value: call(value, told()))
            self.refuses_part("day", NO_DAYS, lambda value: call(day, value))
            self.refuses(Ring, shortest_ring(told()), call, told(), 5)
            self.refuses(Ring, shortest_ring(told()), call, day, told())
            self.refuses(NotSo, "summary", call, NOT_PLAIN, 5)
            self.refuses(NotSo, "summary", call, day, NOT_PLAIN)
            self.refuses(BadPart, "people", call, day, plain_day())
            self.refuses(BadPart, "people", call, day, Day([Person("ann", "inn", 0)]))


if __name__ == "__main__":
    unittest.main()
