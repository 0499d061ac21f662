"""[2], [3] (a), [10], [11], [12]: maps."""
import random
import sys
import unittest
from pathlib import Path

sys.path.insert(0, str(Path(__file__).parent))

from checks import NO_COUNTS, NO_LISTS, NO_MOMENTS, ODD, Promises, known
from risingday.errors import BadIndex, BadNumber, BadPart
from risingday.rising import (Rising, first_above, first_unlike, greatest_of, least_of, nowhere, nth_of, since, stay,
                              steady, until)

MANY = 90
GREAT = [10 ** 4, 10 ** 9 + 7, 10 ** 19]


def given(rows, minute):
    """What rows give for a minute, by [11] alone."""
    if minute is None:
        return None
    start, value, grows = [row for row in rows if row[0] <= minute][-1]
    return value + minute - start if grows else value


def rows_of(values):
    """The told rows by [11], from what a map gives minute by minute."""
    rows = []
    start = 0
    while start < len(values):
        value = values[start]
        grows = value is not None and start + 1 < len(values) and values[start + 1] == value + 1
        end = start + 1
        while end < len(values) and values[end] == (value + end - start if grows else value):
            end += 1
        rows.append((start, value, grows))
        start = end
    return tuple(rows)


def some_rows(chance):
    """Rows of some map, often parted further than needed."""
    rows, start, value = [], 0, chance.randrange(4)
    for _ in range(chance.randrange(1, 7)):
        grows = chance.random() < 0.5
        many = chance.randrange(1, 6)
        if not grows:
            many = min(many, value - start + 1)
        rows.append((start, value, grows))
        start += many
        value = max(start, value + (many - 1 if grows else 0) + chance.choice([0, 0, 1, 1, 1, 4]))
    rows.append((start, None, False) if chance.random() < 0.3 else (start, value, True))
    return rows


def many_rows(count, seed):
    chance = random.Random(seed)
    plain = [[(0, 0, True)], [(0, None, False)], [(0, 7, True)], [(0, 5, False), (6, 6, True)],
             [(0, 0, True), (6, None, False)], [(0, 0, False), (1, None, False)]]
    return plain + [some_rows(chance) for _ in range(count)]


class Rows(Promises):
    def test_examples_of_the_text(self):
        self.assertEqual(stay().rows, ((0, 0, True),))
        self.assertEqual(since(5).rows, ((0, 5, False), (6, 6, True)))
        self.assertEqual(until(5).rows, ((0, 0, True), (6, None, False)))

    def test_told_rows_are_as_long_as_they_can_be(self):
        for rows in many_rows(400, 1):
            values = [given(rows, minute) for minute in range(MANY)]
            rising = Rising(rows)
            self.assertIs(rising.rows.__class__, tuple)
            self.assertEqual(rising.rows, rows_of(values), rows)
            for row in rising.rows:
                self.assertIs(row.__class__, tuple)
                self.assertIs(row[2].__class__, bool)

    def test_rows_parted_further_than_needed(self):
        self.assertEqual(Rising([(0, 0, True), (1, 1, True), (7, 7, True)]).rows, ((0, 0, True),))
        self.assertEqual(Rising([(0, 0, False), (1, 1, False), (2, 2, True)]).rows, ((0, 0, True),))
        self.assertEqual(Rising([(0, 9, False), (3, 9, False), (8, 9, True)]).rows, ((0, 9, False), (9, 10, True)))
        self.assertEqual(Rising([(0, 4, True), (1, 6, False), (2, 6, True), (3, 7, True)]).rows,
                         ((0, 4, False), (1, 6, False), (3, 7, True)))
        self.assertEqual(Rising([(0, None, False), (3, None, False)]).rows, ((0, None, False),))
        self.assertEqual(Rising([(0, 3, True), (1, 3, False), (2, None, False)]).rows,
                         ((0, 3, False), (2, None, False)))
        self.assertEqual(Rising([(0, 5, True), (1, 7, True)]).rows, ((0, 5, False), (1, 7, True)))
        self.assertEqual(Rising([(0, 0, True), (1, None, False)]).rows, ((0, 0, False), (1, None, False)))

    def test_a_told_row_stands(self):
        for rows in many_rows(100, 2):
            rising = Rising(rows)
            self.assertEqual(Rising(rising.rows).rows, rising.rows)
            self.assertEqual(Rising(list(rising.rows)), rising)

    def test_like_maps_have_like_rows(self):
        for rows in many_rows(150, 3):
            parted = []
            for place, (start, value, grows) in enumerate(rows):
                end = rows[place + 1][0] if place + 1 < len(rows) else start + 4
                parted.extend((minute, given(rows, minute), grows) for minute in range(start, end))
            self.assertEqual(Rising(parted).rows, Rising(rows).rows)
            self.assertTrue(Rising(tuple(parted)) == Rising(rows))

    def test_rows_handed_in_and_changed_later(self):
        rows = [(0, 5, False), (6, 6, True)]
        rising = Rising(rows)
        rows[0] = (0, 0, True)
        rows.clear()
        self.assertEqual(rising.rows, ((0, 5, False), (6, 6, True)))

    def test_cannot_be_iterated_and_len_is_that_of_the_rows(self):
        self.cannot_be_iterated(stay())
        self.assertEqual((len(stay()), len(since(5)), len(until(5)), len(nowhere()), len(Rising([(0, 2, True)]))),
                         (1, 2, 2, 1, 1))
        self.assertEqual(len(Rising([(0, 0, True), (4, 4, True), (5, None, False)])), 2)

    def test_by_name(self):
        self.assertEqual(Rising(rows=[(0, 0, True)]), stay())


class WrongRows(Promises):
    def test_no_list_or_empty(self):
        self.refuses_part("rows", [*NO_LISTS, [], (), {(0, 0, True)}, {(0, 0, True): 1}], Rising)

    def test_each_wrong_row_in_first_middle_and_last_place(self):
        wrong = [None, 0, "row", [], (), (0, 0), (0, 0, True, True), [0, 0, True], {}, True]
        for row in wrong:
            self.refuses(BadIndex, 0, Rising, [row])
            self.refuses(BadIndex, 0, Rising, [row, (5, 5, True)])
            self.refuses(BadIndex, 1, Rising, [(0, 0, True), row, (50, 50, True)])
            self.refuses(BadIndex, 2, Rising, ((0, 0, True), (50, 50, True), row))

    def test_wrong_items_of_a_row(self):
        for start in (None, True, "5", (5,), [5]):
            self.refuses(BadIndex, 1, Rising, [(0, 0, True), (start, 50, True)])
        for value in (True, "50", (50,), [50], {}):
            self.refuses(BadIndex, 1, Rising, [(0, 0, True), (5, value, True)])
            self.refuses(BadIndex, 0, Rising, [(0, value, True)])
        for grows in (None, 0, 1, "True", ()):
            self.refuses(BadIndex, 1, Rising, [(0, 0, True), (5, 50, grows)])
            self.refuses(BadIndex, 0, Rising, [(0, 0, grows)])

    def test_truths_are_no_integers(self):
        self.refuses(BadIndex, 0, Rising, [(False, 0, True)])
        self.refuses(BadIndex, 0, Rising, [(0, False, True)])
        self.refuses(BadIndex, 1, Rising, [(0, 0, True), (True, 5, True)])

    def test_starts(self):
        self.refuses(BadIndex, 0, Rising, [(1, 1, True)])
        self.refuses(BadIndex, 0, Rising, [(-1, 1, True), (0, 1, True)])
        self.refuses(BadIndex, 1, Rising, [(0, 0, True), (0, 5, True)])
        self.refuses(BadIndex, 1, Rising, [(0, 0, True), (-3, 5, True)])
        self.refuses(BadIndex, 2, Rising, [(0, 0, True), (6, 6, True), (5, 9, True)])
        self.refuses(BadIndex, 2, Rising, [(0, 0, True), (6, 6, True), (6, 9, True), (4, 9, True)])

    def test_values_below_the_start_and_never_that_grows(self):
        self.refuses(BadIndex, 0, Rising, [(0, -1, True)])
        self.refuses(BadIndex, 1, Rising, [(0, 3, False), (4, 3, False), (5, 9, True)])
        self.assertEqual(Rising([(0, 3, False), (4, 4, True)]), since(3))
        self.refuses(BadIndex, 0, Rising, [(0, None, True)])
        self.refuses(BadIndex, 1, Rising, [(0, 0, True), (4, None, True)])
        self.refuses(BadIndex, 1, Rising, [(0, 0, True), (4, None, True), (6, None, False)])

    def test_values_less_than_the_row_ahead_gives(self):
        self.refuses(BadIndex, 1, Rising, [(0, 9, False), (3, 8, True)])
        self.refuses(BadIndex, 1, Rising, [(0, 9, True), (3, 10, True)])
        self.assertEqual(Rising([(0, 9, True), (3, 11, True)])(3), 11)
        self.refuses(BadIndex, 1, Rising, [(0, None, False), (3, 8, True)])
        self.refuses(BadIndex, 2, Rising, [(0, 0, True), (4, None, False), (5, 50, True)])

    def test_a_row_behind_one_that_is_level_too_long(self):
        self.assertEqual(Rising([(0, 3, False), (4, 9, True)])(3), 3)
        self.refuses(BadIndex, 1, Rising, [(0, 3, False), (5, 9, True)])
        self.refuses(BadIndex, 1, Rising, [(0, 3, False), (5, None, False)])
        self.refuses(BadIndex, 2, Rising, [(0, 0, True), (2, 3, False), (5, 9, False), (7, 9, True)])

    def test_last_row_level_with_an_integer(self):
        self.refuses(BadIndex, 0, Rising, [(0, 9, False)])
        self.refuses(BadIndex, 2, Rising, [(0, 0, True), (4, 9, True), (6, 50, False)])
        self.refuses(BadIndex, 1, Rising, [(0, 9, False), (3, 9, False)])

    def test_the_first_wrong_row_is_told(self):
        self.refuses(BadIndex, 1, Rising, [(0, 0, True), (3, 2, True), (3, 2, True), None])
        self.refuses(BadIndex, 0, Rising, [(0, -5, True), None])
        self.refuses(BadIndex, 1, Rising, [(0, 5, False), None])


class Calling(Promises):
    def test_each_minute_and_great_ones(self):
        for rows in many_rows(150, 4):
            rising = Rising(rows)
            for minute in [*range(MANY), *GREAT]:
                self.assertEqual(rising(minute), given(rows, minute))
            self.assertIsNone(rising(None))
        self.assertEqual(steady(3)(minute=4), 7)

    def test_never_falls_and_is_no_less_than_the_minute(self):
        for rows in many_rows(50, 5):
            values = [known(Rising(rows)(minute)) for minute in range(MANY)]
            self.assertEqual(values, sorted(values))
            self.assertTrue(all(value >= minute for minute, value in enumerate(values)))

    def test_wrong_minutes(self):
        self.refuses_each(BadNumber, NO_MOMENTS, stay())
        self.refuses_each(BadNumber, NO_MOMENTS, nowhere())


class Plain(Promises):
    def test_what_they_give(self):
        for minute in [0, 1, 2, 5, 6, 17]:
            for more in [*range(30), *GREAT]:
                self.assertEqual(stay()(more), more)
                self.assertEqual(steady(minute)(more), more + minute)
                self.assertEqual(since(minute)(more), max(minute, more))
                self.assertEqual(until(minute)(more), more if more <= minute else None)
                self.assertIsNone(nowhere()(more))
        self.assertEqual((since(0), steady(0)), (stay(), stay()))
        self.assertEqual(until(0).rows, ((0, 0, False), (1, None, False)))
        self.assertEqual(until(1).rows, ((0, 0, True), (2, None, False)))
        self.assertEqual(nowhere().rows, ((0, None, False),))
        for made in (stay(), steady(minutes=3), since(minute=4), until(minute=4), nowhere()):
            self.assertIsInstance(made, Rising)

    def test_wrong_numbers(self):
        for call in (steady, since, until):
            self.refuses_each(BadNumber, NO_COUNTS, call)


class Together(Promises):
    def setUp(self):
        self.maps = [Rising(rows) for rows in many_rows(40, 6)]

    def holds(self, found, values):
        """The map gives these values, and tells its rows as they ask for."""
        self.assertIsInstance(found, Rising)
        self.assertEqual([found(minute) for minute in range(len(values))], values)
        self.assertEqual(found.rows, rows_of(values))

    def test_one_behind_the_other(self):
        for f in self.maps:
            for g in self.maps:
                self.holds(f >> g, [g(f(minute)) for minute in range(MANY)])

    def test_greater_and_lesser(self):
        for f in self.maps:
            for g in self.maps:
                self.holds(f | g, [max(f(t), g(t), key=known) for t in range(MANY)])
                self.holds(f & g, [min(f(t), g(t), key=known) for t in range(MANY)])

    def test_at_great_minutes(self):
        for f in self.maps[:12]:
            for g in self.maps:
                for t in GREAT:
                    self.assertEqual(((f >> g)(t), (f | g)(t), (f & g)(t)),
                                     (g(f(t)), max(f(t), g(t), key=known), min(f(t), g(t), key=known)))

    def test_greatest_least_and_nth_of_several(self):
        chance = random.Random(7)
        for many in (1, 2, 3, 4, 5):
            for _ in range(25):
                maps = [chance.choice(self.maps) for _ in range(many)]
                sorts = [sorted((f(t) for f in maps), key=known) for t in range(MANY)]
                self.holds(greatest_of(maps), [row[-1] for row in sorts])
                self.holds(least_of(tuple(maps)), [row[0] for row in sorts])
                for number in range(1, many + 1):
                    self.holds(nth_of(maps, number), [row[number - 1] for row in sorts])

    def test_alike_ones_count_as_often_as_they_are_given(self):
        maps = [steady(2), steady(9), steady(2)]
        self.assertEqual([nth_of(maps, n) for n in (1, 2, 3)], [steady(2), steady(2), steady(9)])
        self.assertEqual(nth_of(maps=tuple(maps), number=3), steady(9))
        self.assertEqual((greatest_of(maps=maps), least_of(maps=maps)), (steady(9), steady(2)))

    def test_a_map_of_the_greatest_is_the_greatest_of_the_maps(self):
        for f in self.maps[:15]:
            for one, other in ((0, 5), (7, 3), (20, None)):
                self.assertEqual(f(max(one, other, key=known)), max(f(one), f(other), key=known))

    def test_arguments_stay_as_they_are(self):
        maps = [since(5), steady(2)]
        greatest_of(maps), least_of(maps), nth_of(maps, 1), maps[0] >> maps[1], maps[0] | maps[1], maps[0] & maps[1]
        self.assertEqual(maps, [since(5), steady(2)])

    def test_wrong_lists_of_maps(self):
        wrong = [*NO_LISTS, [], (), [5], [stay(), None], [stay(), [(0, 0, True)]], stay(), {stay: 1}]
        self.refuses_part("maps", wrong, greatest_of)
        self.refuses_part("maps", wrong, least_of)
        self.refuses_part("maps", wrong, lambda maps: nth_of(maps, 1))
        self.refuses_part("maps", [[], [None]], lambda maps: nth_of(maps, None))
        self.refuses_each(BadNumber, [*NO_COUNTS, 0, 3, 10 ** 19], lambda n: nth_of([stay(), stay()], n))

    def test_operands_of_another_class(self):
        for other in [*ODD, None, 5, 0, [], (), {}, [(0, 0, True)], ((0, 0, True),), Rising]:
            for call in (lambda: stay() >> other, lambda: stay() | other, lambda: stay() & other,
                         lambda: other >> stay(), lambda: other | stay(), lambda: other & stay()):
                with self.assertRaises(TypeError):
                    call()


class Comparing(Promises):
    def setUp(self):
        self.maps = [Rising(rows) for rows in many_rows(60, 8)]

    def test_not_above_and_alike(self):
        for f in self.maps:
            for g in self.maps:
                ones, others = [known(f(t)) for t in range(MANY)], [known(g(t)) for t in range(MANY)]
                self.assertIs(f <= g, all(one <= other for one, other in zip(ones, others)))
                self.assertIs(f == g, ones == others)
                self.assertIs(f != g, ones != others)

    def test_first_unlike_and_first_above(self):
        for f in self.maps:
            for g in self.maps:
                pairs = [(known(f(t)), known(g(t))) for t in range(MANY)]
                unlike = [t for t, (one, other) in enumerate(pairs) if one != other]
                above = [t for t, (one, other) in enumerate(pairs) if one > other]
                self.assertEqual(first_unlike(f, g), unlike[0] if unlike else None)
                self.assertEqual(first_above(f, g), above[0] if above else None)

    def test_first_minutes_far_away(self):
        self.assertEqual(first_above(steady(3), since(10 ** 9)), 10 ** 9 - 2)
        self.assertEqual(first_above(one=stay(), other=until(10 ** 9)), None)
        self.assertEqual(first_above(until(10 ** 9), stay()), 10 ** 9 + 1)
        self.assertEqual(first_unlike(one=stay(), other=until(10 ** 9)), 10 ** 9 + 1)

    def test_values_of_another_class(self):
        for other in [*ODD, None, 0, 5, [], (), [(0, 0, True)], ((0, 0, True),), Rising]:
            self.assertIs(stay() <= other, False)
            self.assertIs(stay() == other, False)
            self.assertIs(stay() != other, True)

    def test_no_maps(self):
        for wrong in [*ODD, None, 0, [], ((0, 0, True),), [stay()]]:
            for call in (first_unlike, first_above):
                self.refuses(BadPart, "maps", call, wrong, stay())
                self.refuses(BadPart, "maps", call, stay(), wrong)
                self.refuses(BadPart, "maps", call, wrong, wrong)


class Back(Promises):
    def setUp(self):
        self.maps = [Rising(rows) for rows in many_rows(60, 9)]

    def test_back_is_the_greatest_minute(self):
        for f in self.maps:
            for y in range(MANY - 5):
                let = [t for t in range(y + 1) if known(f(t)) <= y]
                self.assertEqual(f.back(y), let[-1] if let else None)
                for t in range(0, MANY - 5, 7):
                    self.assertIs(known(f(t)) <= y, f.back(y) is not None and t <= f.back(y))

    def test_back_of_maps_made_of_others(self):
        for f in self.maps[:20]:
            for g in self.maps:
                for y in range(0, 60, 3):
                    one, other = f.back(y), g.back(y)
                    both = None not in (one, other)
                    some = [minute for minute in (one, other) if minute is not None]
                    self.assertEqual((f >> g).back(y), None if other is None else f.back(other))
                    self.assertEqual((f | g).back(y), min(one, other) if both else None)
                    self.assertEqual((f & g).back(y), max(some) if some else None)

    def test_great_minutes_and_minutes_without_back(self):
        self.assertEqual(stay().back(10 ** 19), 10 ** 19)
        self.assertEqual(since(9).back(10 ** 19), 10 ** 19)
        self.assertEqual(steady(7).back(minute=7), 0)
        self.assertIsNone(steady(7).back(6))
        self.assertIsNone(since(9).back(8))
        self.assertEqual(since(9).back(9), 9)
        self.assertEqual(until(9).back(10 ** 19), 9)
        self.assertIsNone(nowhere().back(10 ** 19))

    def test_wrong_minutes(self):
        self.refuses_each(BadNumber, NO_COUNTS, stay().back)
        self.refuses_each(BadNumber, NO_COUNTS, nowhere().back)

    def test_last(self):
        for f in self.maps:
            minutes = [t for t in range(MANY) if f(t) is not None]
            self.assertEqual(f.last(), minutes[-1] if minutes and len(minutes) < MANY else None)
        self.assertEqual((until(0).last(), until(7).last()), (0, 7))
        self.assertIsNone(stay().last())
        self.assertIsNone(nowhere().last())

    def test_later(self):
        for f in self.maps:
            for more in (0, 1, 8, 10 ** 6):
                values = [None if f(t) is None else f(t) + more for t in range(MANY)]
                self.assertEqual(f.later(more).rows, rows_of(values))
                self.assertEqual(f.later(more), f >> steady(more))
        self.assertEqual(since(5).later(minutes=3)(2), 8)
        self.refuses_each(BadNumber, NO_COUNTS, stay().later)
        self.refuses_each(BadNumber, NO_COUNTS, nowhere().later)


if __name__ == "__main__":
    unittest.main()
