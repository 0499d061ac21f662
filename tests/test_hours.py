"""[2], [3] (b), [5], [14]: hours and gates."""
import random
import sys
import unittest
from pathlib import Path

sys.path.insert(0, str(Path(__file__).parent))

from checks import NO_COUNTS, NO_MOMENTS, ODD, Promises, known
from risingday.errors import BadIndex, BadNumber, BadPart
from risingday.hours import Hours, is_hours, witness
from risingday.rising import Rising, nowhere, stay

FOUR = [(0, 0), (1, 1), (5, 9), (9998, 9999)]
NO_SPANS = [
    *ODD, 5, {}, {(0, 5): 1}, [None], [5], [()], [(1,)], [(1, 2, 3)], [[1, 2]], [{1: 2}], [(-1, 5)], [(0, 10000)],
    [(6, 5)], [(True, 5)], [(0, True)], [(0, None)], [(None, 5)], [("0", 5)], [(0, 5), None], [(0, 5), (5, 9)],
    [(0, 5), (3, 9)], [(10, 20), (0, 5)], [(0, 5), (0, 5)], [(0, 5), (7, 9), (8, 12)],
    [(0, 1), (2, 3), (4, 5), (6, 7), (8, 9)],
]


def gate_by_hand(spans, n, t):
    """The gate by [5] alone, going through the minutes."""
    if t is None or spans is None:
        return t
    let = [at for at in range(t, 80) if any(start <= at and at + n <= end for start, end in spans)]
    return let[0] if let else None


def some_spans(chance):
    if chance.random() < 0.1:
        return None
    minutes = sorted(chance.sample(range(40), 2 * chance.randrange(0, 5)))
    spans = [(minutes[at], minutes[at + 1]) for at in range(0, len(minutes), 2)]
    return [(start, start if chance.random() < 0.2 else end) for start, end in spans]


def many_spans(count, seed):
    chance = random.Random(seed)
    plain = [None, [], [(0, 0)], [(0, 39)], [(5, 9), (10, 20)], [(5, 9), (11, 20)], [(5, 20)]]
    return plain + [some_spans(chance) for _ in range(count)]


class Told(Promises):
    def test_is_hours(self):
        for value in (None, [], [(0, 0)], [(0, 9999)], FOUR, [(3, 4), (5, 5)]):
            self.assertIs(is_hours(value), True)
        for value in NO_SPANS:
            self.assertIs(is_hours(value), False, value)
        self.assertIs(is_hours(value=[(1, 2)]), True)
        self.assertIs(is_hours(Hours()), False)

    def test_wrong_hours(self):
        self.refuses_part("hours", [*NO_SPANS, Hours(), Hours([(0, 5)])], Hours)

    def test_spans(self):
        self.assertIsNone(Hours().spans())
        self.assertIsNone(Hours(None).spans())
        self.assertEqual(Hours(spans=[]).spans(), [])
        self.assertEqual(Hours(FOUR).spans(), FOUR)
        self.assertEqual(Hours(tuple(FOUR)).spans(), FOUR)
        self.assertIs(Hours(()).spans().__class__, list)

    def test_what_is_handed_in_or_out_and_changed(self):
        spans = [(0, 5), (7, 9)]
        hours = Hours(spans)
        spans.pop()
        hours.spans().clear()
        self.assertEqual(hours.spans(), [(0, 5), (7, 9)])
        self.cannot_be_iterated(hours)

    def test_equal(self):
        self.assertTrue(Hours([(0, 5)]) == Hours(((0, 5),)))
        self.assertTrue(Hours() == Hours(None))
        self.assertFalse(Hours() == Hours([]))
        self.assertFalse(Hours([(0, 5)]) == Hours([(0, 6)]))
        self.assertFalse(Hours([(0, 5)]) == Hours([(0, 5), (7, 8)]))
        self.assertTrue(Hours([(0, 5)]) != Hours([(1, 5)]))
        for other in [*ODD, None, 5, [], [(0, 5)], ((0, 5),), Hours]:
            self.assertIs(Hours([(0, 5)]) == other, False)
            self.assertIs(Hours() == other, False)


class Gates(Promises):
    def test_example_of_the_interface(self):
        hours = Hours([(0, 12), (20, 40)])
        self.assertEqual([hours.gate(10, t) for t in (2, 3, 30, 31)], [2, 20, 30, None])

    def test_gate_is_let_and_gate_map_minute_by_minute(self):
        for spans in many_spans(120, 1):
            hours = Hours(spans)
            for n in (0, 1, 2, 5, 11, 39, 40):
                rising = hours.gate_map(n)
                self.assertIsInstance(rising, Rising)
                for t in range(45):
                    wanted = gate_by_hand(spans, n, t)
                    self.assertEqual(hours.gate(n, t), wanted)
                    self.assertEqual(rising(t), wanted)
                    self.assertIs(hours.is_let(n, t), wanted == t)
                for t in (50, 10 ** 19):
                    self.assertEqual(hours.gate(n, t), t if spans is None else None)
                    self.assertEqual(rising(t), t if spans is None else None)
                    self.assertIs(hours.is_let(n, t), spans is None)
                self.assertIsNone(hours.gate(n, None))
                self.assertIs(hours.is_let(n, None), False)

    def test_edges_of_spans(self):
        hours = Hours([(10, 20), (30, 30)])
        self.assertEqual([hours.gate(0, t) for t in (0, 9, 10, 20, 21, 30, 31)], [10, 10, 10, 20, 30, 30, None])
        self.assertEqual([hours.gate(10, t) for t in (0, 10, 11)], [10, 10, None])
        self.assertEqual([hours.gate(11, t) for t in (0, 10)], [None, None])
        self.assertIs(hours.is_let(10, 10), True)
        self.assertIs(hours.is_let(10, 11), False)

    def test_neighbouring_spans_are_not_one(self):
        hours = Hours([(0, 4), (5, 20)])
        self.assertEqual([hours.gate(3, t) for t in (1, 2, 4, 5)], [1, 5, 5, 5])

    def test_always_and_never_open(self):
        for n in (0, 7, 10 ** 19):
            self.assertEqual((Hours().gate(n, 5), Hours().gate_map(n)), (5, stay()))
            self.assertEqual((Hours([]).gate(n, 5), Hours([]).gate_map(n)), (None, nowhere()))
        self.assertEqual(Hours([(3, 9)]).gate_map(2).rows, ((0, 3, False), (4, 4, True), (8, None, False)))
        self.assertEqual(Hours([(3, 9)]).gate(n=2, t=0), 3)
        self.assertIs(Hours([(3, 9)]).is_let(n=2, t=3), True)
        self.assertEqual(Hours([(0, 3)]).gate_map(n=4), nowhere())

    def test_gates_rise(self):
        for spans in many_spans(40, 2):
            hours = Hours(spans)
            for n in range(8):
                gates = [known(hours.gate(n, t)) for t in range(45)]
                self.assertEqual(gates, sorted(gates))
                for t in range(45):
                    self.assertLessEqual(gates[t], known(hours.gate(n + 1, t)))

    def test_refusals_in_their_order(self):
        for hours in (Hours(), Hours([]), Hours([(0, 9)])):
            for call in (hours.gate, hours.is_let):
                self.refuses_each(BadNumber, NO_COUNTS, lambda n: call(n, 5))
                self.refuses_each(BadNumber, NO_COUNTS, lambda n: call(n, None))
                self.refuses_each(BadNumber, NO_COUNTS, lambda n: call(n, -7))
                self.refuses_each(BadNumber, NO_MOMENTS, lambda t: call(0, t))
            self.refuses_each(BadNumber, NO_COUNTS, hours.gate_map)


class Within(Promises):
    def test_held_against_spans(self):
        told = many_spans(40, 3)
        for one in told:
            for other in told:
                if one is None or other is None:
                    wanted = other is None
                else:
                    wanted = all(any(low <= start and end <= high for low, high in other) for start, end in one)
                self.assertIs(Hours(one) <= Hours(other), wanted)

    def test_plain_cases(self):
        self.assertIs(Hours([]) <= Hours([]), True)
        self.assertIs(Hours([]) <= Hours([(0, 5)]), True)
        self.assertIs(Hours([(0, 5)]) <= Hours([]), False)
        self.assertIs(Hours([(0, 9999)]) <= Hours(), True)
        self.assertIs(Hours() <= Hours([(0, 9999)]), False)
        self.assertIs(Hours() <= Hours(), True)
        self.assertIs(Hours([(3, 8)]) <= Hours([(0, 5), (6, 10)]), False)
        self.assertIs(Hours([(1, 2), (4, 5)]) <= Hours([(1, 5)]), True)

    def test_values_of_another_class(self):
        for other in [*ODD, None, 5, [], [(0, 5)], Hours]:
            with self.assertRaises(TypeError):
                Hours([(0, 5)]) <= other
            with self.assertRaises(TypeError):
                Hours() <= other

    def test_witness_held_against_going_through(self):
        told = many_spans(18, 4)
        for one in told:
            for other in told:
                wanted = None
                for n in range(42):
                    for t in range(60 if one is not None else 70):
                        if wanted is None and known(gate_by_hand(one, n, t)) < known(gate_by_hand(other, n, t)):
                            wanted = (n, t)
                    if wanted is not None or n > 3 and Hours(one) <= Hours(other):
                        break
                found = witness(Hours(one), Hours(other))
                self.assertEqual(found, wanted, (one, other))
                self.assertIs(found is None, Hours(one) <= Hours(other))

    def test_plain_witnesses(self):
        self.assertEqual(witness(Hours([(3, 8)]), Hours([(0, 5), (6, 10)])), (1, 5))
        self.assertEqual(witness(Hours(), Hours([(0, 9999)])), (0, 10000))
        self.assertEqual(witness(one=Hours([(3, 8)]), other=Hours([(5, 8)])), (0, 0))
        self.assertEqual(witness(Hours([(0, 8)]), Hours([])), (0, 0))
        self.assertEqual(witness(Hours([(0, 8)]), Hours([(0, 7)])), (0, 8))
        self.assertIsNone(witness(Hours([(3, 8)]), Hours()))

    def test_witness_of_no_hours(self):
        for wrong in [*ODD, None, 5, [], [(0, 5)], Hours]:
            self.refuses(BadPart, "hours", witness, wrong, Hours())
            self.refuses(BadPart, "hours", witness, Hours(), wrong)
            self.refuses(BadPart, "hours", witness, wrong, wrong)


class Longer(Promises):
    def test_plain(self):
        hours = Hours([(0, 5), (10, 20), (30, 40)])
        for index, more, wanted in (
                (0, 0, [(0, 5), (10, 20), (30, 40)]), (0, 4, [(0, 9), (10, 20), (30, 40)]),
                (1, 9, [(0, 5), (10, 29), (30, 40)]), (2, 9, [(0, 5), (10, 20), (30, 49)])):
            found = hours.longer(index, more)
            self.assertIsInstance(found, Hours)
            self.assertEqual(found.spans(), wanted)
        self.assertEqual(hours.spans(), [(0, 5), (10, 20), (30, 40)])

    def test_spans_that_are_come_to_or_into(self):
        hours = Hours([(0, 5), (10, 20), (30, 40), (42, 50)])
        for index, more, wanted in (
                (0, 5, [(0, 20), (30, 40), (42, 50)]), (0, 10, [(0, 20), (30, 40), (42, 50)]),
                (0, 15, [(0, 20), (30, 40), (42, 50)]), (0, 16, [(0, 21), (30, 40), (42, 50)]),
                (0, 24, [(0, 29), (30, 40), (42, 50)]), (0, 25, [(0, 40), (42, 50)]),
                (0, 36, [(0, 41), (42, 50)]), (0, 37, [(0, 50)]), (0, 60, [(0, 65)]),
                (1, 10, [(0, 5), (10, 40), (42, 50)]), (2, 2, [(0, 5), (10, 20), (30, 50)]),
                (2, 1, [(0, 5), (10, 20), (30, 41), (42, 50)])):
            self.assertEqual(hours.longer(index=index, more=more).spans(), wanted)

    def test_at_9999_at_most(self):
        self.assertEqual(Hours([(0, 9998)]).longer(0, 1).spans(), [(0, 9999)])
        self.assertEqual(Hours([(0, 9998)]).longer(0, 2).spans(), [(0, 9999)])
        self.assertEqual(Hours([(0, 0)]).longer(0, 9999).spans(), [(0, 9999)])
        self.assertEqual(Hours([(7, 9), (9999, 9999)]).longer(0, 9999).spans(), [(7, 9999)])

    def test_refusals_in_their_order(self):
        for hours in (Hours([(0, 5), (8, 9)]), Hours([(3, 3), (8, 9)])):
            self.refuses_each(BadIndex, [*NO_COUNTS, 2, 10 ** 19], lambda index: hours.longer(index, 5))
            self.refuses_each(BadIndex, [*NO_COUNTS, 2], lambda index: hours.longer(index, None))
            self.refuses_each(BadNumber, [*NO_COUNTS, 10000], lambda more: hours.longer(1, more))
        for hours in (Hours(), Hours([])):
            self.refuses_each(BadIndex, [0, 1, -1, None, True], lambda index: hours.longer(index, None))


if __name__ == "__main__":
    unittest.main()
