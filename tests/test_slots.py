"""[2], [3] (a), [13]: ways by slots."""
import random
import sys
import unittest
from pathlib import Path

sys.path.insert(0, str(Path(__file__).parent))

from checks import NO_COUNTS, NO_LISTS, ODD, Promises
from risingday.errors import BadNumber, BadPart
from risingday.rising import Rising, since, stay, steady, until
from risingday.slots import by_slots, ride, set_out

WRONG_LENGTHS = [*ODD, None, 0, -1, 721, [60], (60,), {}]
WRONG_SLOTS = [*NO_LISTS, [], (), [5] * 25, (5,) * 25]
WRONG_RIDINGS = [*ODD, None, -1, 601, [5], (5,), {}]
WRONG_LASTS = [*ODD, -1, 10000, [5], (5,), {}]


def comes(length, slots, minute):
    """When somebody comes who sets out at a minute at once, by [13] alone."""
    number = minute // length
    return minute + (slots[number] if number < len(slots) else slots[-1])


def setting_outs(length, slots, minute, last):
    """All minutes from a minute on at which setting out can be worth it."""
    end = minute + length * len(slots) + 40 if last is None else last
    return range(minute, end + 1)


def some_ways(count, seed):
    chance = random.Random(seed)
    for _ in range(count):
        length = chance.randrange(1, 8)
        slots = [chance.randrange(0, chance.choice([3, 12, 30])) for _ in range(chance.randrange(1, 6))]
        last = chance.choice([None, None, 0, chance.randrange(1, 50)])
        yield length, slots, last


class Ways(Promises):
    def test_example_of_the_interface(self):
        way = by_slots(60, [20, 5])
        late = way >> until(70)
        self.assertEqual(
            (way.rows, way(46), set_out(60, [20, 5], 46), way.back(64), late.last(), (since(5) | until(8)).rows),
            (((0, 20, True), (46, 65, False), (61, 66, True)), 65, 60, 44, 65,
             ((0, 5, False), (6, 6, True), (9, None, False))))

    def test_held_against_all_minutes_of_setting_out(self):
        for length, slots, last in some_ways(150, 1):
            way = by_slots(length, slots, last=last)
            self.assertIsInstance(way, Rising)
            for minute in range(75):
                minutes = setting_outs(length, slots, minute, last)
                if len(minutes) == 0:
                    self.assertIsNone(way(minute))
                    self.assertIsNone(set_out(length, slots, minute, last=last))
                    continue
                least = min(comes(length, slots, at) for at in minutes)
                first = [at for at in minutes if comes(length, slots, at) == least][0]
                self.assertEqual(way(minute), least)
                self.assertEqual(set_out(length, slots, minute, last=last), first)

    def test_ride(self):
        for length, slots, _ in some_ways(60, 2):
            for minute in range(60):
                self.assertEqual(ride(length, slots, minute), comes(length, slots, minute))
        self.assertEqual([ride(60, [20, 5], minute) for minute in (0, 59, 60, 119, 120, 10 ** 19)],
                         [20, 79, 65, 124, 125, 10 ** 19 + 5])
        self.assertEqual(ride(length=1, slots=(4,), minute=3), 7)

    def test_one_riding_time(self):
        self.assertEqual(by_slots(1, [7]), steady(7))
        self.assertEqual(by_slots(720, [0]), stay())
        self.assertEqual(by_slots(length=720, slots=(600,), last=None), steady(600))
        self.assertEqual(by_slots(60, [7], last=9).rows, ((0, 7, True), (10, None, False)))
        self.assertEqual(set_out(60, [7], 5), 5)

    def test_behind_the_last_slot(self):
        way = by_slots(10, [9, 30, 2])
        self.assertEqual((way(20), way(35), way(10 ** 19)), (22, 37, 10 ** 19 + 2))
        self.assertEqual(set_out(10, [9, 30, 2], 10 ** 19), 10 ** 19)
        self.assertEqual((way(10), set_out(10, [9, 30, 2], 10)), (22, 20))

    def test_most_slots_and_longest_riding(self):
        slots = [600 - 25 * index for index in range(24)]
        way = by_slots(720, slots)
        self.assertEqual((way(0), way(720 * 23), way(10 ** 6)), (600, 720 * 23 + 25, 10 ** 6 + 25))
        self.assertEqual(way(719), 720 + 575)

    def test_last_setting_out(self):
        slots = [30, 1]
        self.assertEqual(by_slots(10, slots, last=10)(0), 11)
        self.assertEqual(by_slots(10, slots, last=9)(0), 30)
        self.assertEqual((by_slots(10, slots, last=9)(9), by_slots(10, slots, last=9)(10)), (39, None))
        self.assertEqual(set_out(10, slots, 9, last=9), 9)
        self.assertEqual(set_out(10, slots, 9, last=10), 10)
        self.assertIsNone(set_out(length=10, slots=slots, minute=11, last=10))
        self.assertEqual(by_slots(10, slots, last=0).rows, ((0, 30, False), (1, None, False)))
        self.assertEqual(by_slots(10, slots, last=9999).last(), 9999)
        self.assertIsNone(by_slots(10, slots).last())

    def test_of_like_arrivals_the_least_minute_of_setting_out(self):
        self.assertEqual(set_out(10, [15, 5], 0), 0)
        self.assertEqual(set_out(10, [16, 6, 1], 1), 10)
        self.assertEqual(set_out(10, [30, 12, 2], 3), 10)

    def test_last_by_name_alone(self):
        with self.assertRaises(TypeError):
            by_slots(10, [5], 9)
        with self.assertRaises(TypeError):
            set_out(10, [5], 0, 9)

    def test_slots_handed_in_stay(self):
        slots = [20, 5]
        way = by_slots(60, slots)
        ride(60, slots, 5), set_out(60, slots, 5, last=70)
        self.assertEqual(slots, [20, 5])
        slots[1] = 600
        self.assertEqual(way(46), 65)


class Refusals(Promises):
    CALLS = [lambda length, slots: by_slots(length, slots, last=True),
             lambda length, slots: ride(length, slots, None),
             lambda length, slots: set_out(length, slots, None, last=True)]

    def test_length_slots_and_riding_times_in_their_order(self):
        for call in self.CALLS:
            self.refuses_part("length", WRONG_LENGTHS, lambda length: call(length, [-1]))
            self.refuses_part("length", WRONG_LENGTHS, lambda length: call(length, None))
            self.refuses_part("slots", WRONG_SLOTS, lambda slots: call(60, slots))
            self.refuses_part("slots", [[-1] * 25], lambda slots: call(60, slots))
            self.refuses_each(BadNumber, WRONG_RIDINGS, lambda riding: call(60, [riding]))
            self.refuses_each(BadNumber, WRONG_RIDINGS, lambda riding: call(60, [0, riding, 700]))
            self.refuses_each(BadNumber, WRONG_RIDINGS, lambda riding: call(60, (600, 0, riding)))

    def test_edges_of_length_slots_and_riding_times(self):
        for length in (1, 720):
            for slots in ([0], [600], (5,) * 24):
                self.assertEqual(ride(length, slots, 0), slots[0])
                self.assertEqual(by_slots(length, slots)(0), slots[0])
                self.assertEqual(set_out(length, slots, 0), 0)

    def test_minute_ahead_of_last(self):
        self.refuses_each(BadNumber, NO_COUNTS, lambda minute: ride(60, [5], minute))
        self.refuses_each(BadNumber, NO_COUNTS, lambda minute: set_out(60, [5], minute))
        self.refuses_each(BadNumber, NO_COUNTS, lambda minute: set_out(60, [5], minute, last=-7))
        self.refuses_each(BadNumber, WRONG_LASTS, lambda last: set_out(60, [5], 0, last=last))
        self.refuses_each(BadNumber, WRONG_LASTS, lambda last: by_slots(60, [5], last=last))


if __name__ == "__main__":
    unittest.main()
