"""[21]: keys of errands and of moments."""
import sys
import unittest
from pathlib import Path

sys.path.insert(0, str(Path(__file__).parent))

from byhand import ByHand, some_day
from checks import NO_LISTS, ODD, Promises
from risingday.days import Day
from risingday.errors import BadKey
from risingday.keys import WORDS, errand_keys, is_errand_key, is_moment_key, key_place, moment_keys
from test_days import ANN, NO_ERRAND_KEYS, told

NO_DAYS = [*ODD, None, 5, [], {}, ANN, Day]
NO_MOMENT_KEYS = [
    *ODD, *NO_LISTS, None, 5, (), [], ("ann", 0), ("ann", 0, "arrive"), ("ann", 0, "Ends"), ("ann", 0, ""),
    ("ann", 1, "ends"), ("ann", 5, "ends"), ("ann", -1, "ends"), ("bo", 0, "arrives"), ("cy", 0, "begins"),
    ("zoe", 0, "ends"), ("ann", True, "ends"), ("ann", False, "begins"), ["ann", 0, "ends"], (("ann", 0), "ends"),
    ("ann", 0, "ends", 0), (["ann"], 0, "ends"), ("ann", [0], "ends"), ("ann", 0, ["ends"]), ("ann", 0, None),
    ("ann", "0", "ends"), ("ends", 0, "ann"), (0, "ann", "ends"), (None, 0, "ends"), ({}, {}, {}),
]


class Keys(Promises):
    def test_words(self):
        self.assertEqual(WORDS, ("arrives", "begins", "ends"))
        self.assertIs(WORDS.__class__, tuple)

    def test_lists_in_order(self):
        day = told()
        keys = [("bo", 1), ("bo", 2), ("bo", 3), ("ann", 0), ("ann", 2), ("ann", 3), ("ann", 4)]
        self.assertEqual(errand_keys(day), keys)
        self.assertEqual(moment_keys(day), [(*key, word) for key in keys for word in WORDS])
        self.assertEqual((errand_keys(day=Day()), moment_keys(day=Day())), ([], []))
        self.assertIs(errand_keys(day).__class__, list)
        self.assertIs(moment_keys(day).__class__, list)

    def test_lists_that_are_changed(self):
        day = told()
        errand_keys(day).clear()
        moment_keys(day).clear()
        self.assertEqual((len(errand_keys(day)), len(moment_keys(day))), (7, 21))

    def test_places(self):
        day = told()
        self.assertEqual([key_place(day, key) for key in moment_keys(day)], list(range(21)))
        self.assertEqual(key_place(day=day, key=("ann", 0, "begins")), 10)

    def test_is_errand_key(self):
        day = told()
        for key in errand_keys(day):
            self.assertIs(is_errand_key(day, key), True)
        for value in [*NO_ERRAND_KEYS, *moment_keys(day)]:
            self.assertIs(is_errand_key(day, value), False, value)
        self.assertIs(is_errand_key(day=day, value=("bo", 1)), True)
        self.assertIs(is_errand_key(Day(), ("bo", 1)), False)

    def test_is_moment_key(self):
        day = told()
        for key in moment_keys(day):
            self.assertIs(is_moment_key(day, key), True)
        for value in [*NO_MOMENT_KEYS, *errand_keys(day)]:
            self.assertIs(is_moment_key(day, value), False, value)
        self.assertIs(is_moment_key(day=day, value=("bo", 1, "ends")), True)
        self.assertIs(is_moment_key(Day(), ("bo", 1, "ends")), False)

    def test_days_by_chance(self):
        for seed in range(40):
            day = some_day(seed, 4, 5, wild=True)
            hand = ByHand(day)
            self.assertEqual((errand_keys(day), moment_keys(day)), (hand.keys, hand.moments))

    def test_refusals(self):
        self.refuses_each(BadKey, NO_MOMENT_KEYS, lambda key: key_place(told(), key))
        for call in (errand_keys, moment_keys):
            self.refuses_part("day", NO_DAYS, call)
        for call in (is_errand_key, is_moment_key, key_place):
            self.refuses_part("day", NO_DAYS, lambda day: call(day, 5))


if __name__ == "__main__":
    unittest.main()
