"""[24], [25] (the depth), [28]: chains."""
import random
import sys
import unittest
from pathlib import Path

sys.path.insert(0, str(Path(__file__).parent))

from byhand import ByHand, known, some_days
from checks import NO_MOMENTS, ODD, Promises
from risingday.above import round_above
from risingday.below import is_below, round_below
from risingday.chains import chain_numbers, chain_of, chain_table, depth, is_chain, shows_chain
from risingday.counters import Counter
from risingday.days import Day, changed_by
from risingday.errors import BadKey, BadPaper, NotSo, Ring
from risingday.moments import moments
from risingday.needs import shortest_ring
from risingday.people import Person
from risingday.places import Ways
from risingday.rising import steady
from test_days import told
from test_keys import NO_DAYS, NO_MOMENT_KEYS
from test_moments import open_day
from test_needs import at_one_place

KEYS = [("ann", 0, word) for word in ("arrives", "begins", "ends")]


def plain_day():
    """Nothing keeps the day from being plain; ann and bo stand at one desk."""
    return at_one_place({"ann": [("counter", "till", 10), ("stay", "inn", 3)], "bo": [("counter", "till", 4)]})


def some_chain(chance, hand):
    """A row of moments, each of which needs the one ahead."""
    row = [chance.choice(hand.moments)]
    while hand.needs(row[0]) and chance.random() < 0.8:
        row.insert(0, chance.choice(hand.needs(row[0])))
    return tuple(row)


def numbers_by_hand(hand, chain):
    found = []
    for place, key in enumerate(chain):
        found.append(hand.gives(key, {chain[place - 1]: found[-1]} if place else {}, 0))
    return tuple(found)


def chain_by_hand(hand, key):
    own, chain = hand.values(), (key,)
    while hand.gives(chain[0], {}, 0) != own[chain[0]]:
        chain = (next(need for need in hand.needs(chain[0])
                      if hand.gives(chain[0], {need: own[need]}, 0) == own[chain[0]]), *chain)
    return chain


class Depth(Promises):
    def test_by_hand(self):
        for day in some_days(40, 3, 4):
            hand = ByHand(day)

            def deep(key):
                return 1 + max([deep(need) for need in hand.needs(key)], default=0)

            self.assertEqual(depth(day), max([deep(key) for key in hand.moments], default=0))

    def test_days_told(self):
        self.assertEqual(depth(day=Day()), 0)
        self.assertEqual(depth(Day([Person("a", "inn", 5)])), 0)
        self.assertEqual(depth(at_one_place({"a": [("stay", "inn", 1)]})), 3)
        self.assertEqual(depth(plain_day()), 6)

    def test_so_many_rounds_come_to_all_moments(self):
        for day in some_days(25, 3, 4):
            below, above = {}, {}
            for _ in range(depth(day)):
                below, above = round_below(day, below), round_above(day, above)
            self.assertEqual((below, above), (moments(day), moments(day)))


class Chains(Promises):
    def test_is_chain(self):
        chance = random.Random(1)
        for day in some_days(40, 3, 4):
            hand = ByHand(day)
            for _ in range(8):
                chain = some_chain(chance, hand) if hand.moments else ("x",)
                self.assertIs(is_chain(day, chain), bool(hand.moments))
                self.assertIs(is_chain(day, list(chain)), False)
                other = tuple(chance.choice(hand.moments) for _ in range(3)) if hand.moments else ()
                right = bool(other) and all(other[k - 1] in hand.needs(other[k]) for k in (1, 2))
                self.assertIs(is_chain(day=day, chain=other), right)

    def test_what_is_none(self):
        day = plain_day()
        right = (("ann", 0, "begins"), ("ann", 0, "ends"), ("bo", 0, "begins"))
        self.assertIs(is_chain(day, right), True)
        wrong = [*ODD, None, 5, [], (), {}, list(right), right[::-1], (right[0], right[2], right[1]), (*right, right[2]),
                 (*right, None), (*right, ("bo", 0)), (right,), right[0], (right[0], right[0]), (list(right[0]),),
                 (("ann", False, "begins"),), ((["ann"], 0, "begins"),), (("zoe", 0, "ends"),), ("ann",)]
        for value in wrong:
            self.assertIs(is_chain(day, value), False, value)
            self.assertIs(shows_chain(day, right[2], 0, value), False, value)
            self.refuses(BadPaper, "chain", chain_numbers, day, value)
            self.refuses(BadPaper, "chain", chain_table, day, value)
        for key in KEYS:
            self.assertIs(is_chain(day, (key,)), True)

    def test_numbers_and_tables(self):
        chance = random.Random(2)
        for day in some_days(60, 4, 4):
            hand = ByHand(day)
            if not hand.moments:
                continue
            for _ in range(6):
                chain = some_chain(chance, hand)
                numbers = numbers_by_hand(hand, chain)
                self.assertEqual(chain_numbers(day, chain), numbers)
                self.assertIs(chain_numbers(day=day, chain=chain).__class__, tuple)
                self.assertEqual(chain_table(day=day, chain=chain), dict(zip(chain, numbers)))
                self.assertIs(is_below(day, chain_table(day, chain)), True)

    def test_shows_chain(self):
        chance, seen = random.Random(3), {True: 0, False: 0}
        for day in some_days(40, 3, 4):
            hand = ByHand(day)
            if not hand.moments:
                continue
            for _ in range(5):
                chain = some_chain(chance, hand)
                given = numbers_by_hand(hand, chain)[-1]
                for number in {0, None, given, (given or 0) + 1, max(0, (given or 0) - 1)}:
                    right = known(given) >= known(number)
                    seen[right] += 1
                    self.assertIs(shows_chain(day, chain[-1], number, chain), right)
                for value in NO_MOMENTS:
                    self.assertIs(shows_chain(day=day, key=chain[-1], number=value, chain=chain), False)
                other = chance.choice(hand.moments)
                if other != chain[-1]:
                    self.assertIs(shows_chain(day, other, 0, chain), False)
        self.assertGreater(min(seen.values()), 100)


class Told(Promises):
    def test_the_example(self):
        ways = Ways({("inn", "hall"): steady(5)})
        bank = Counter("bank", "hall", order=[("ann", 0), ("bo", 0)])
        two = [Person("ann", "inn", 0, [("counter", "bank", 10)]), Person("bo", "inn", 0, [("counter", "bank", 4)])]
        self.assertEqual(chain_of(Day(two, ways, [bank]), ("bo", 0, "begins")),
                         (("ann", 0, "arrives"), ("ann", 0, "begins"), ("ann", 0, "ends"), ("bo", 0, "begins")))

    def test_plain_days_by_hand(self):
        sizes = set()
        for day in some_days(80, 4, 4, plain=True):
            hand, own = ByHand(day), moments(day)
            for key in own:
                chain = chain_of(day, key)
                sizes.add(len(chain))
                self.assertEqual(chain, chain_by_hand(hand, key))
                self.assertIs(is_chain(day, chain), True)
                self.assertEqual((chain[-1], chain_numbers(day, chain)[-1]), (key, own[key]))
                self.assertIs(shows_chain(day, key, own[key], chain), True)
        self.assertTrue({1, 2, 3, 4, 5, 6, 7} <= sizes)

    def test_nothing_more_than_is_needed(self):
        day = plain_day()
        self.assertEqual(chain_of(day, ("ann", 0, "begins")), (("ann", 0, "begins"),))
        self.assertEqual(chain_of(day, ("ann", 0, "ends")), (("ann", 0, "ends"),))
        self.assertEqual(chain_of(day=day, key=("bo", 0, "begins")), (("ann", 0, "ends"), ("bo", 0, "begins")))
        later = changed_by(day, ("leaves", "bo", 10))
        self.assertEqual(chain_of(later, ("bo", 0, "begins")), (("ann", 0, "ends"), ("bo", 0, "begins")))
        self.assertEqual(chain_of(changed_by(day, ("leaves", "bo", 11)), ("bo", 0, "begins")),
                         (("bo", 0, "arrives"), ("bo", 0, "begins")))

    def test_days_that_are_not_plain(self):
        self.refuses(NotSo, "chain", chain_of, changed_by(plain_day(), ("desks", "till", 2)), KEYS[0])
        self.refuses(NotSo, "chain", chain_of, open_day(), KEYS[0])


class Refusals(Promises):
    def test_in_their_order(self):
        barred, ring = told(), shortest_ring(told())
        for key in NO_MOMENT_KEYS:
            self.refuses(BadKey, key, chain_of, barred, key)
            self.refuses(BadKey, key, chain_of, open_day(), key)
            self.refuses(BadKey, key, shows_chain, barred, key, -1, 5)
        self.refuses(Ring, ring, chain_of, barred, KEYS[0])
        self.refuses(Ring, ring, shows_chain, barred, KEYS[0], -1, 5)
        self.refuses(Ring, ring, depth, barred)
        for call in (is_chain, chain_numbers, chain_table):
            self.refuses(Ring, ring, call, barred, 5)
        self.refuses_part("day", NO_DAYS, depth)


if __name__ == "__main__":
    unittest.main()
