"""[3] (b), [8], [9], [16]: rows of counters, meetings and rooms."""
import random
import sys
import unittest
from pathlib import Path

sys.path.insert(0, str(Path(__file__).parent))

from checks import NO_COUNTS, NO_LISTS, NO_MOMENTS, ODD, Promises, known
from risingday.errors import BadNumber, BadPart
from risingday.hours import Hours
from risingday.rules import (counter_begin, counter_row, guest_end, meeting_begin, meeting_end, meeting_row,
                             room_begin, room_end, room_row)

WRONG_MOMENTS = [*NO_LISTS, [True], [1, False], [-1], [0, -1, 5], ["5"], [[5]], [(5,)], [None, {}], (0, "0")]
WRONG_DESKS = [*NO_COUNTS, 0, 4]
WRONG_HOURS = [*ODD, None, 5, [], [(0, 5)], ((0, 5),), {}]
WRONG_LENGTHS = [*NO_LISTS, [], [1], [1, 2, 3], [1, None], [None, 1], [1, True], [-1, 1], [1, "1"], ([1], 1), (1,)]
WRONG_NOTICES = [*NO_LISTS, [], [1], [1, 2, None], [1, True], [False, 1], [-1, 1], [1, "1"], ([1], 1), (None,)]
NEVER = 10 ** 30


def told(minute):
    return None if minute >= NEVER else minute


def gate(spans, n, t):
    """The gate by [5]; the spans are None if always open."""
    if t >= NEVER or spans is None:
        return t
    let = [max(t, start) for start, end in spans if max(t, start) + n <= end]
    return let[0] if let else NEVER


def counter_by_hand(arrivals, lengths, desks, spans):
    """The row of a counter by [8] alone."""
    begins, ends = [], []
    for place, (arrival, n) in enumerate(zip(arrivals, lengths)):
        t = known(arrival)
        if place > 0:
            t = max(t, begins[-1])
        if place >= desks:
            t = max(t, sorted(ends)[place - desks])
        begins.append(gate(spans, n, t))
        ends.append(begins[-1] + n)
    return [(told(begin), told(end)) for begin, end in zip(begins, ends)]


def meeting_by_hand(opens, length, quorum, arrivals):
    begin = max(opens, sorted(known(arrival) for arrival in arrivals)[quorum - 1])
    return [(told(begin), told(max(begin + length, known(arrival)))) for arrival in arrivals]


def room_by_hand(arrivals, lengths, turn, notices):
    row = []
    for place, arrival in enumerate(arrivals):
        begin = max(known(arrival), row[-1][1] + turn) if row else known(arrival)
        end = begin + lengths[place]
        if notices[place] is not None and place + 1 < len(arrivals):
            end = min(end, max(begin, known(arrivals[place + 1])) + notices[place])
        row.append((begin, end))
    return [(told(begin), told(end)) for begin, end in row]


def some_moments(chance, many):
    return [None if chance.random() < 0.08 else chance.randrange(0, 40) for _ in range(many)]


def some_numbers(chance, many):
    return [chance.choice([0, 0, 1, 3, chance.randrange(0, 15)]) for _ in range(many)]


def some_notices(chance, many):
    return [chance.choice([None, 0, 1, 5, 12]) for _ in range(many)]


def some_spans(chance):
    if chance.random() < 0.3:
        return None
    minutes = sorted(chance.sample(range(120), 2 * chance.randrange(0, 5)))
    return [(minutes[at], minutes[at + 1]) for at in range(0, len(minutes), 2)]


def greater_at(chance, numbers, never=True):
    """The list with one number greater, a moment perhaps never."""
    place = chance.randrange(len(numbers))
    number = numbers[place]
    more = number if number is None else number + chance.randrange(1, 9)
    return [*numbers[:place], None if never and chance.random() < 0.1 else more, *numbers[place + 1:]]


class Rows(Promises):
    def nowhere_less(self, row, later):
        """No begin and no end of the later row is less."""
        self.assertEqual(len(row), len(later))
        for (begin, end), (later_begin, later_end) in zip(row, later):
            self.assertLessEqual(known(begin), known(later_begin))
            self.assertLessEqual(known(end), known(later_end))


class Counters(Rows):
    def test_example_of_the_interface(self):
        self.assertEqual(counter_row([5, 3], [10, 4], 1, Hours()), [(5, 15), (15, 19)])

    def test_rows_by_the_rule(self):
        chance = random.Random(1)
        for _ in range(600):
            many, desks, spans = chance.randrange(0, 8), chance.randrange(1, 4), some_spans(chance)
            arrivals, lengths = some_moments(chance, many), some_numbers(chance, many)
            row = counter_row(arrivals, lengths, desks, Hours(spans))
            self.assertIs(row.__class__, list)
            self.assertEqual(row, counter_by_hand(arrivals, lengths, desks, spans))
            self.assertEqual(counter_row(tuple(arrivals), tuple(lengths), desks, Hours(spans)), row)

    def test_each_begin_by_those_ahead(self):
        chance = random.Random(2)
        for _ in range(300):
            many, desks, hours = chance.randrange(1, 8), chance.randrange(1, 4), Hours(some_spans(chance))
            arrivals, lengths = some_moments(chance, many), some_numbers(chance, many)
            row = counter_row(arrivals, lengths, desks, hours)
            for place, (begin, end) in enumerate(row):
                ahead = row[place - 1][0] if place else 0
                ends = [pair[1] for pair in row[:place]]
                self.assertEqual(counter_begin(arrivals[place], ahead, ends, desks, hours, lengths[place]), begin)
                self.assertEqual(end, None if begin is None else begin + lengths[place])

    def test_desks(self):
        arrivals, lengths = [0, 0, 0, 1, 1], [10, 4, 6, 0, 2]
        self.assertEqual(counter_row(arrivals, lengths, 1, Hours()),
                         [(0, 10), (10, 14), (14, 20), (20, 20), (20, 22)])
        self.assertEqual(counter_row(arrivals, lengths, 2, Hours()), [(0, 10), (0, 4), (4, 10), (10, 10), (10, 12)])
        self.assertEqual(counter_row(arrivals, lengths, 3, Hours()), [(0, 10), (0, 4), (0, 6), (4, 4), (4, 6)])

    def test_nobody_begins_ahead_of_the_one_ahead(self):
        self.assertEqual(counter_row([20, 0, 0], [1, 1, 1], 3, Hours()), [(20, 21), (20, 21), (20, 21)])
        self.assertEqual(counter_row([5, None, 0], [1, 1, 1], 3, Hours()), [(5, 6), (None, None), (None, None)])

    def test_hours(self):
        self.assertEqual(counter_row([0, 0], [10, 4], 1, Hours([(3, 14), (20, 40)])), [(3, 13), (20, 24)])
        self.assertEqual(counter_row([0, 0], [10, 4], 2, Hours([(3, 14), (20, 40)])), [(3, 13), (3, 7)])
        self.assertEqual(counter_row([0, 0], [30, 4], 1, Hours([(3, 14), (20, 40)])), [(None, None), (None, None)])
        self.assertEqual(counter_row([0], [0], 1, Hours([])), [(None, None)])
        self.assertEqual(counter_row([], [], 2, Hours([])), [])
        self.assertEqual(counter_row(arrivals=[14], lengths=[0], desks=1, hours=Hours([(3, 14)])), [(14, 14)])

    def test_counter_begin(self):
        self.assertEqual(counter_begin(7, 0, [], 1, Hours(), 5), 7)
        self.assertEqual(counter_begin(7, 9, [11], 2, Hours(), 5), 9)
        self.assertEqual(counter_begin(7, 9, [11], 1, Hours(), 5), 11)
        self.assertEqual(counter_begin(7, 9, (30, 12, 11), 2, Hours(), 5), 12)
        self.assertEqual(counter_begin(7, 9, [30, 12, 11], 3, Hours(), 5), 11)
        self.assertEqual(counter_begin(7, 0, [], 1, Hours([(0, 11), (20, 25)]), 5), 20)
        self.assertEqual(counter_begin(6, 0, [], 1, Hours([(0, 11), (20, 25)]), 5), 6)
        self.assertIsNone(counter_begin(None, 0, [], 1, Hours(), 5))
        self.assertIsNone(counter_begin(7, None, [], 1, Hours(), 5))
        self.assertIsNone(counter_begin(7, 0, [None], 1, Hours(), 5))
        self.assertEqual(counter_begin(7, 0, [None, 8], 2, Hours(), 5), 8)
        self.assertEqual(
            counter_begin(arrival=7, begin_ahead=0, ends_ahead=[], desks=1, hours=Hours(), n=10 ** 19), 7)

    def test_rising(self):
        chance = random.Random(3)
        for _ in range(600):
            many, desks, spans = chance.randrange(1, 7), chance.randrange(1, 4), some_spans(chance)
            arrivals, lengths = some_moments(chance, many), some_numbers(chance, many)
            row = counter_row(arrivals, lengths, desks, Hours(spans))
            self.nowhere_less(row, counter_row(greater_at(chance, arrivals), lengths, desks, Hours(spans)))
            self.nowhere_less(row, counter_row(arrivals, greater_at(chance, lengths, False), desks, Hours(spans)))
            if desks > 1:
                self.nowhere_less(row, counter_row(arrivals, lengths, desks - 1, Hours(spans)))
            wide = [(2, 60)] if spans is None else spans
            fewer = [(start + chance.randrange(2), end) for start, end in wide if start < end]
            fewer = [span for span in fewer if chance.random() < 0.7]
            self.assertLessEqual(Hours(fewer), Hours(spans))
            self.nowhere_less(row, counter_row(arrivals, lengths, desks, Hours(fewer)))
            for end in range(many):
                self.assertEqual(counter_row(arrivals[:end], lengths[:end], desks, Hours(spans)), row[:end])

    def test_refusals_of_counter_begin_in_their_order(self):
        hours = Hours()
        self.refuses_each(BadNumber, NO_MOMENTS, lambda arrival: counter_begin(arrival, -7, None, 0, None, -1))
        self.refuses_each(BadNumber, NO_MOMENTS, lambda begin: counter_begin(None, begin, None, 0, None, -1))
        self.refuses_part("ends", WRONG_MOMENTS, lambda ends: counter_begin(0, 0, ends, 0, None, -1))
        self.refuses_each(BadNumber, WRONG_DESKS, lambda desks: counter_begin(0, 0, [], desks, None, -1))
        self.refuses_part("hours", WRONG_HOURS, lambda wrong: counter_begin(0, 0, [], 1, wrong, -1))
        self.refuses_each(BadNumber, NO_COUNTS, lambda n: counter_begin(0, 0, [], 1, hours, n))
        self.refuses_each(BadNumber, NO_COUNTS, lambda n: counter_begin(None, 0, [], 1, hours, n))

    def test_refusals_of_counter_row_in_their_order(self):
        self.refuses_part("arrivals", WRONG_MOMENTS, lambda arrivals: counter_row(arrivals, None, 0, None))
        self.refuses_part("lengths", WRONG_LENGTHS, lambda lengths: counter_row([3, 4], lengths, 0, None))
        self.refuses_part("lengths", [[0]], lambda lengths: counter_row([], lengths, 1, Hours()))
        self.refuses_each(BadNumber, WRONG_DESKS, lambda desks: counter_row([3], [1], desks, None))
        self.refuses_each(BadNumber, WRONG_DESKS, lambda desks: counter_row([], [], desks, None))
        self.refuses_part("hours", WRONG_HOURS, lambda hours: counter_row([3], [1], 1, hours))
        self.refuses_part("hours", WRONG_HOURS, lambda hours: counter_row([], [], 1, hours))

    def test_lists_stay_as_they_are(self):
        arrivals, lengths, ends = [5, 3], [10, 4], [9, 2]
        counter_row(arrivals, lengths, 1, Hours()), counter_begin(0, 0, ends, 1, Hours(), 5)
        self.assertEqual((arrivals, lengths, ends), ([5, 3], [10, 4], [9, 2]))


class Meetings(Rows):
    def test_rows_by_the_rule(self):
        chance = random.Random(4)
        for _ in range(300):
            arrivals = some_moments(chance, chance.randrange(1, 7))
            opens, length = chance.randrange(0, 50), chance.choice([0, 3, 20])
            for quorum in range(1, len(arrivals) + 1):
                row = meeting_row(opens, length, quorum, arrivals)
                self.assertEqual(row, meeting_by_hand(opens, length, quorum, arrivals))
                self.assertEqual(meeting_row(opens, length, quorum, tuple(arrivals)), row)
                begin = meeting_begin(opens, arrivals, quorum)
                self.assertEqual(row, [(begin, meeting_end(begin, length, arrival)) for arrival in arrivals])

    def test_each_quorum(self):
        arrivals = [30, None, 10, 20]
        self.assertEqual([meeting_begin(0, arrivals, quorum) for quorum in (1, 2, 3, 4)], [10, 20, 30, None])
        self.assertEqual([meeting_begin(25, arrivals, quorum) for quorum in (1, 2, 3, 4)], [25, 25, 30, None])
        self.assertEqual(meeting_row(0, 5, 2, arrivals), [(20, 30), (20, None), (20, 25), (20, 25)])
        self.assertEqual(meeting_row(opens=0, length=5, quorum=4, arrivals=arrivals), [(None, None)] * 4)
        self.assertEqual(meeting_begin(opens=3, arrivals=(7, 7), quorum=2), 7)

    def test_meeting_end(self):
        self.assertEqual((meeting_end(10, 5, 3), meeting_end(10, 5, 15), meeting_end(10, 5, 16)), (15, 15, 16))
        self.assertEqual((meeting_end(10, 0, 0), meeting_end(begin=0, length=7, arrival=0)), (10, 7))
        self.assertIsNone(meeting_end(None, 5, 3))
        self.assertIsNone(meeting_end(10, 5, None))

    def test_rising(self):
        chance = random.Random(5)
        for _ in range(400):
            arrivals = some_moments(chance, chance.randrange(1, 7))
            opens, length, quorum = chance.randrange(0, 50), chance.randrange(30), chance.randrange(len(arrivals)) + 1
            row = meeting_row(opens, length, quorum, arrivals)
            self.nowhere_less(row, meeting_row(opens, length, quorum, greater_at(chance, arrivals)))
            self.nowhere_less(row, meeting_row(opens + chance.randrange(9), length, quorum, arrivals))
            self.nowhere_less(row, meeting_row(opens, length + chance.randrange(9), quorum, arrivals))
            if quorum < len(arrivals):
                self.nowhere_less(row, meeting_row(opens, length, quorum + 1, arrivals))

    def test_refusals_in_their_order(self):
        quorums = [*NO_COUNTS, 0, 3]
        self.refuses_each(BadNumber, NO_COUNTS, lambda opens: meeting_begin(opens, None, 0))
        self.refuses_part("arrivals", WRONG_MOMENTS, lambda arrivals: meeting_begin(0, arrivals, 0))
        self.refuses_each(BadNumber, quorums, lambda quorum: meeting_begin(0, [3, None], quorum))
        self.refuses_each(BadNumber, [0, 1, None], lambda quorum: meeting_begin(0, [], quorum))
        self.refuses_each(BadNumber, NO_MOMENTS, lambda begin: meeting_end(begin, None, -7))
        self.refuses_each(BadNumber, NO_COUNTS, lambda length: meeting_end(None, length, -7))
        self.refuses_each(BadNumber, NO_MOMENTS, lambda arrival: meeting_end(3, 5, arrival))
        self.refuses_each(BadNumber, NO_MOMENTS, lambda arrival: meeting_end(None, 5, arrival))

    def test_refusals_of_the_row_with_the_quorum_at_last(self):
        quorums = [*NO_COUNTS, 0, 3]
        self.refuses_each(BadNumber, NO_COUNTS, lambda opens: meeting_row(opens, None, 0, None))
        self.refuses_each(BadNumber, NO_COUNTS, lambda length: meeting_row(0, length, 0, None))
        self.refuses_part("arrivals", WRONG_MOMENTS, lambda arrivals: meeting_row(0, 5, 0, arrivals))
        self.refuses_part("arrivals", [None, [-1]], lambda arrivals: meeting_row(0, 5, None, arrivals))
        self.refuses_each(BadNumber, quorums, lambda quorum: meeting_row(0, 5, quorum, [3, None]))
        self.refuses_each(BadNumber, [0, 1, None], lambda quorum: meeting_row(0, 5, quorum, []))


class Rooms(Rows):
    def test_example_of_the_interface(self):
        self.assertEqual(room_row([0, 20], [60, 5], 5, [10, None]), [(0, 30), (35, 40)])

    def test_rows_by_the_rule(self):
        chance = random.Random(6)
        for _ in range(600):
            many, turn = chance.randrange(0, 7), chance.choice([0, 0, 4, 20])
            arrivals, lengths, notices = (some_moments(chance, many), some_numbers(chance, many),
                                          some_notices(chance, many))
            row = room_row(arrivals, lengths, turn, notices)
            self.assertIs(row.__class__, list)
            self.assertEqual(row, room_by_hand(arrivals, lengths, turn, notices))
            self.assertEqual(room_row(tuple(arrivals), tuple(lengths), turn, tuple(notices)), row)

    def test_turns_and_notices(self):
        arrivals, lengths = [0, 10, 10], [60, 20, 5]
        self.assertEqual(room_row(arrivals, lengths, 0, [None] * 3), [(0, 60), (60, 80), (80, 85)])
        self.assertEqual(room_row(arrivals, lengths, 7, [None] * 3), [(0, 60), (67, 87), (94, 99)])
        self.assertEqual(room_row(arrivals, lengths, 7, [0, 0, 0]), [(0, 10), (17, 17), (24, 29)])
        self.assertEqual(room_row(arrivals, lengths, 7, [3, 30, 1]), [(0, 13), (20, 40), (47, 52)])
        self.assertEqual(room_row(arrivals, lengths, 0, [50, None, None]), [(0, 60), (60, 80), (80, 85)])
        self.assertEqual(room_row(arrivals, lengths, 0, [49, None, None]), [(0, 59), (59, 79), (79, 84)])

    def test_a_guest_at_the_end_of_the_row(self):
        self.assertEqual(room_row([5], [60], 9, [0]), [(5, 65)])
        self.assertEqual(room_row([5, 6], [60, 60], 9, [None, 0]), [(5, 65), (74, 134)])

    def test_never(self):
        self.assertEqual(room_row([0, None, 3], [9, 9, 9], 1, [None] * 3), [(0, 9), (None, None), (None, None)])
        self.assertEqual(room_row([0, None], [9, 9], 1, [2, None]), [(0, 9), (None, None)])
        self.assertEqual(room_row([None, 0], [9, 9], 1, [2, None]), [(None, None), (None, None)])
        self.assertEqual(room_row([], [], 600, []), [])

    def test_begins_and_ends(self):
        self.assertEqual((room_begin(7, 0, 0), room_begin(7, 4, 3), room_begin(7, 5, 3)), (7, 7, 8))
        self.assertEqual((room_begin(None, 5, 3), room_begin(7, None, 0)), (None, None))
        self.assertEqual((room_end(7, 0), room_end(7, 9), room_end(None, 9)), (7, 16, None))
        self.assertEqual(guest_end(0, 60, 10, 20), 30)
        self.assertEqual(guest_end(0, 25, 10, 20), 25)
        self.assertEqual(guest_end(30, 60, 10, 20), 40)
        self.assertEqual(guest_end(30, 60, 0, 30), 30)
        self.assertEqual((guest_end(0, 60, 10, None), guest_end(None, 60, 10, 20)), (60, None))
        self.assertEqual((room_begin(arrival=1, end_ahead=2, turn=3), room_end(begin=1, n=2)), (5, 3))
        self.assertEqual(guest_end(begin=0, n=60, notice=5, behind=7), 12)

    def test_rising(self):
        chance = random.Random(7)
        for _ in range(600):
            many, turn = chance.randrange(1, 7), chance.randrange(9)
            arrivals, lengths, notices = (some_moments(chance, many), some_numbers(chance, many),
                                          some_notices(chance, many))
            row = room_row(arrivals, lengths, turn, notices)
            self.nowhere_less(row, room_row(greater_at(chance, arrivals), lengths, turn, notices))
            self.nowhere_less(row, room_row(arrivals, greater_at(chance, lengths, False), turn, notices))
            self.nowhere_less(row, room_row(arrivals, lengths, turn + chance.randrange(9), notices))
            self.nowhere_less(row, room_row(arrivals, lengths, turn, greater_at(chance, notices, False)))
            for end in range(1, many):
                ahead = room_row(arrivals[:end], lengths[:end], turn, notices[:end])
                self.assertEqual([pair[0] for pair in ahead], [pair[0] for pair in row[:end]])
                self.assertEqual(ahead[:-1], row[:end - 1])
                if notices[end - 1] is None:
                    self.assertEqual(ahead, row[:end])

    def test_refusals_in_their_order(self):
        self.refuses_each(BadNumber, NO_MOMENTS, lambda arrival: room_begin(arrival, -7, None))
        self.refuses_each(BadNumber, NO_MOMENTS, lambda end: room_begin(None, end, None))
        self.refuses_each(BadNumber, NO_COUNTS, lambda turn: room_begin(0, 0, turn))
        self.refuses_each(BadNumber, NO_COUNTS, lambda turn: room_begin(None, None, turn))
        self.refuses_each(BadNumber, NO_MOMENTS, lambda begin: room_end(begin, None))
        self.refuses_each(BadNumber, NO_COUNTS, lambda n: room_end(None, n))
        self.refuses_each(BadNumber, NO_MOMENTS, lambda begin: guest_end(begin, None, None, -7))
        self.refuses_each(BadNumber, NO_COUNTS, lambda n: guest_end(None, n, -8, -7))
        self.refuses_each(BadNumber, NO_COUNTS, lambda notice: guest_end(None, 0, notice, -7))
        self.refuses_each(BadNumber, NO_MOMENTS, lambda behind: guest_end(None, 0, 0, behind))

    def test_refusals_of_the_row_in_their_order(self):
        self.refuses_part("arrivals", WRONG_MOMENTS, lambda arrivals: room_row(arrivals, None, None, None))
        self.refuses_part("lengths", WRONG_LENGTHS, lambda lengths: room_row([3, 4], lengths, None, None))
        self.refuses_each(BadNumber, NO_COUNTS, lambda turn: room_row([3, 4], [1, 2], turn, None))
        self.refuses_each(BadNumber, NO_COUNTS, lambda turn: room_row([], [], turn, None))
        self.refuses_part("notices", WRONG_NOTICES, lambda notices: room_row([3, 4], [1, 2], 0, notices))
        self.refuses_part("notices", [[None], [0]], lambda notices: room_row([], [], 0, notices))

    def test_lists_stay_as_they_are(self):
        arrivals, lengths, notices = [0, 20], [60, 5], [10, None]
        room_row(arrivals, lengths, 5, notices), meeting_row(0, 5, 1, arrivals)
        self.assertEqual((arrivals, lengths, notices), ([0, 20], [60, 5], [10, None]))


if __name__ == "__main__":
    unittest.main()
