"""[2], [3] (b), [8], [15]: n-ths."""
import itertools
import random
import sys
import unittest
from pathlib import Path

sys.path.insert(0, str(Path(__file__).parent))

from checks import NO_COUNTS, NO_LISTS, NO_MOMENTS, Promises, known
from risingday.errors import BadNumber, BadPart
from risingday.nth import (desk_free, greatest, is_earlier, is_moment, keeps_above, keeps_below, later_by, least,
                           needed_above, needed_below, nth)

WRONG_MOMENTS = [*NO_LISTS, [True], [1, False], [-1], [0, -1, 5], ["5"], [[5]], [(5,)], [None, {}], (0, "0")]
WRONG_NS = [*NO_COUNTS, 0]


def many_lists(count, seed):
    chance = random.Random(seed)
    plain = [[], [0], [None], [7], [0, 0], [None, None], [3, 3, 3], [7, None, 3, 7], [0, 5, 0]]
    return plain + [[chance.choice([None, 0, 0, 1, 3, 3, 9]) for _ in range(chance.randrange(0, 6))]
                    for _ in range(count)]


def nth_by_hand(moments, n):
    """The n-th least by [8] alone."""
    in_row = sorted(moments, key=known)
    return in_row[n - 1] if n <= len(in_row) else None


def all_places(moments):
    for many in range(len(moments) + 1):
        yield from itertools.combinations(range(len(moments)), many)


class Moments(Promises):
    def test_is_moment(self):
        for value in (None, 0, 1, 9999, 10 ** 19):
            self.assertIs(is_moment(value), True)
        for value in NO_MOMENTS:
            self.assertIs(is_moment(value), False)
        self.assertIs(is_moment(value=3), True)

    def test_is_earlier(self):
        for one in (None, 0, 1, 7, 10 ** 19):
            for other in (None, 0, 1, 7, 10 ** 19):
                self.assertIs(is_earlier(one, other), known(one) < known(other))
        self.assertIs(is_earlier(one=1, other=2), True)
        self.refuses_each(BadNumber, NO_MOMENTS, lambda one: is_earlier(one, -7))
        self.refuses_each(BadNumber, NO_MOMENTS, lambda other: is_earlier(None, other))

    def test_later_by(self):
        self.assertEqual((later_by(3, 4), later_by(0, 0), later_by(5, 10 ** 19)), (7, 0, 10 ** 19 + 5))
        self.assertIsNone(later_by(None, 5))
        self.assertEqual(later_by(moment=3, more=1), 4)
        self.refuses_each(BadNumber, NO_MOMENTS, lambda moment: later_by(moment, -7))
        self.refuses_each(BadNumber, NO_COUNTS, lambda more: later_by(None, more))
        self.refuses_each(BadNumber, NO_COUNTS, lambda more: later_by(3, more))


class Lists(Promises):
    def test_greatest_and_least(self):
        self.assertEqual((greatest([]), greatest(()), least([]), least(())), (0, 0, None, None))
        self.assertEqual((greatest([3, 9, 1]), least([3, 9, 1])), (9, 1))
        self.assertEqual((greatest([3, None, 1]), least([3, None, 1])), (None, 1))
        self.assertEqual((greatest([None]), least([None])), (None, None))
        self.assertEqual((greatest(moments=(0, 0)), least(moments=(0, 0))), (0, 0))
        for moments in many_lists(60, 1):
            if moments:
                self.assertEqual(greatest(moments), max(moments, key=known))
                self.assertEqual(least(moments), min(moments, key=known))

    def test_nth(self):
        for moments in many_lists(120, 2):
            for n in range(1, 9):
                self.assertEqual(nth(moments, n), nth_by_hand(moments, n))
                self.assertEqual(nth(tuple(moments), n), nth_by_hand(moments, n))
        self.assertIsNone(nth([1, 2], 3))
        self.assertIsNone(nth([], 10 ** 19))
        self.assertEqual(nth(moments=[4, 4, 1], n=3), 4)

    def test_nth_rises(self):
        for moments in many_lists(60, 3):
            for n in range(1, 7):
                self.assertLessEqual(known(nth(moments, n)), known(nth(moments, n + 1)))
                for place, moment in enumerate(moments):
                    for later in (None, 0 if moment is None else moment + 3):
                        if known(later) >= known(moment):
                            changed = [*moments[:place], later, *moments[place + 1:]]
                            self.assertLessEqual(known(nth(moments, n)), known(nth(changed, n)))

    def test_lists_stay_as_they_are(self):
        moments = [7, None, 3, 7]
        greatest(moments), least(moments), nth(moments, 2), needed_below(moments, 2), needed_above(moments, 2)
        keeps_below(moments, 2, [0]), keeps_above(moments, 2, [0]), desk_free(moments, 2)
        self.assertEqual(moments, [7, None, 3, 7])

    def test_refusals_in_their_order(self):
        self.refuses_part("moments", WRONG_MOMENTS, greatest)
        self.refuses_part("moments", WRONG_MOMENTS, least)
        for call in (nth, needed_below, needed_above):
            self.refuses_part("moments", WRONG_MOMENTS, lambda moments: call(moments, None))
            self.refuses_each(BadNumber, WRONG_NS, lambda n: call([1, 2], n))
            self.refuses_each(BadNumber, WRONG_NS, lambda n: call([], n))


class Needed(Promises):
    def test_example_of_the_interface(self):
        self.assertEqual(needed_below([7, None, 3, 7], 3), [1, 3])

    def test_by_the_rule(self):
        for moments in many_lists(150, 4):
            many = len(moments)
            by_moment = sorted(range(many), key=lambda place: (known(moments[place]), place))
            for n in range(1, many + 3):
                value = nth_by_hand(moments, n)
                latest = by_moment[n - 1:] if n <= many and value != 0 else []
                first = by_moment[:n] if value is not None else []
                self.assertEqual(needed_below(moments, n), sorted(latest))
                self.assertEqual(needed_above(moments, n), sorted(first))
                self.assertEqual(needed_below(tuple(moments), n), sorted(latest))

    def test_plain_cases(self):
        self.assertEqual(needed_below([5, 5, 5], 2), [1, 2])
        self.assertEqual(needed_above([5, 5, 5], 2), [0, 1])
        self.assertEqual(needed_below([0, 0, 5], 2), [])
        self.assertEqual(needed_below([0, 1, 5], 2), [1, 2])
        self.assertEqual(needed_below([None, 1], 3), [])
        self.assertEqual(needed_below([None, 1], 2), [0])
        self.assertEqual(needed_above([None, 1], 2), [])
        self.assertEqual(needed_above([None, 1], 1), [1])
        self.assertEqual(needed_above([0, 0], 1), [0])
        self.assertEqual(needed_above([1], 2), [])
        self.assertEqual(needed_below(moments=[3], n=1), [0])
        self.assertEqual(needed_above(moments=[3], n=1), [0])
        self.assertEqual((needed_below([], 1), needed_above([], 1)), ([], []))

    def test_they_keep_it_and_no_fewer_places_do(self):
        for moments in many_lists(60, 5):
            for n in range(1, len(moments) + 2):
                for needed, keeps in ((needed_below, keeps_below), (needed_above, keeps_above)):
                    places = needed(moments, n)
                    self.assertIs(places.__class__, list)
                    self.assertIs(keeps(moments, n, places), True)
                    for fewer in all_places(moments):
                        if len(fewer) < len(places):
                            self.assertIs(keeps(moments, n, fewer), False)


class Keeps(Promises):
    def test_all_places_of_lists(self):
        for moments in many_lists(60, 6):
            for n in range(1, len(moments) + 3):
                value = known(nth_by_hand(moments, n))
                for places in all_places(moments):
                    below = [moment if place in places else 0 for place, moment in enumerate(moments)]
                    above = [moment if place in places else None for place, moment in enumerate(moments)]
                    self.assertIs(keeps_below(moments, n, list(places)), known(nth_by_hand(below, n)) >= value)
                    self.assertIs(keeps_above(moments, n, places), known(nth_by_hand(above, n)) <= value)
        self.assertIs(keeps_below(moments=[3, 4], n=2, places=[1]), True)
        self.assertIs(keeps_above(moments=[3, 4], n=1, places=[1]), False)

    def test_refusals_in_their_order(self):
        wrong = [*NO_LISTS, [True], [False], [0, True], [None], ["0"], [[0]], [1, 0], [0, 0], (1, 1), [0, 2, 1]]
        for call in (keeps_below, keeps_above):
            self.refuses_part("moments", WRONG_MOMENTS, lambda moments: call(moments, None, None))
            self.refuses_each(BadNumber, WRONG_NS, lambda n: call([1, 2], n, None))
            self.refuses_part("places", wrong, lambda places: call([1, 2, 5], 1, places))
            self.refuses_part("places", [[-1], [3], [0, 3], (-1, 0)], lambda places: call([1, 2, 5], 1, places))
            self.refuses_part("places", [[0]], lambda places: call([], 1, places))


class Desks(Promises):
    def test_the_so_many_th_greatest_of_the_ends(self):
        for ends in many_lists(150, 7):
            for desks in (1, 2, 3):
                in_row = sorted(ends, key=known, reverse=True)
                self.assertEqual(desk_free(ends, desks), in_row[desks - 1] if len(ends) >= desks else 0)
                if len(ends) >= desks:
                    self.assertEqual(desk_free(ends, desks), nth(ends, len(ends) - desks + 1))
        self.assertEqual([desk_free([4, 9, 7], desks) for desks in (1, 2, 3)], [9, 7, 4])
        self.assertEqual(desk_free(ends=(4, None), desks=1), None)
        self.assertEqual(desk_free([None, None], 3), 0)

    def test_refusals_in_their_order(self):
        self.refuses_part("ends", WRONG_MOMENTS, lambda ends: desk_free(ends, None))
        self.refuses_each(BadNumber, [*NO_COUNTS, 0, 4], lambda desks: desk_free([1], desks))


if __name__ == "__main__":
    unittest.main()
