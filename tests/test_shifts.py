"""[3] (h), [39], [40]: who comes later in a queue, and what still rises."""
import random
import sys
import unittest
from pathlib import Path

sys.path.insert(0, str(Path(__file__).parent))

from checks import NO_COUNTS, Promises, known
from risingday.arrivals import Queue, by_list, is_before
from risingday.errors import BadIndex, BadNumber, NotSo
from risingday.hours import Hours
from risingday.rising import Rising, nowhere, since, stay
from risingday.shifts import (best_later, busy_end, effects, gains_of, latest_arrival, own_map, spaced_begins,
                              steps_of)
from test_arrivals import CALLERS, NO_INDEXES, NO_QUEUES, some_queue
from test_summaries import NO_TOLD_MINUTES

EXAMPLE = Queue(2, Hours(), [(0, 2), (0, 9), (1, 9), (2, 3)])


def some_queues(many, seed, most=5, last=12, opened=None):
    chance = random.Random(seed)
    return [some_queue(chance, most, last, opened) for _ in range(many)]


def many_callers(many):
    """Queues of two desks or more in which somebody often gains."""
    chance = random.Random(16)
    return [Queue(chance.randrange(2, 4), Hours(), [(chance.randrange(6), chance.choice([1, 2, 3, 9])) for _ in range(7)])
            for _ in range(many)]


def begins_with(queue, index, arrival):
    return queue.arrived(index, arrival).begin_list()


def directly_behind(queue, index, other):
    """Whether nobody is between a caller and the other one, who is ahead."""
    tickets = queue.tickets()
    return tickets.index(index) == tickets.index(other) + 1


def gains_by_trying(queue, arrivals):
    """All (index, arrival, who) by the words of [41]."""
    begins = queue.begin_list()
    found = []
    for index in range(len(queue)):
        for arrival in [arrival for arrival in arrivals if arrival > queue.callers[index][0]]:
            later = queue.arrived(index, arrival)
            found += [(index, arrival, who) for who, begin in enumerate(later.begin_list())
                      if is_before(queue, index, who) and is_before(later, index, who) and known(begin) < known(begins[who])]
    return found


class OwnMaps(Promises):
    def test_each_arrival(self):
        for queue in some_queues(150, 1):
            for index in range(len(queue)):
                rising = own_map(queue, index)
                self.assertIsInstance(rising, Rising)
                for arrival in range(90):
                    self.assertEqual(rising(arrival), begins_with(queue, index, arrival)[index])

    def test_told_maps(self):
        self.assertEqual(own_map(Queue(1, Hours(), [(7, 5)]), 0), stay())
        self.assertEqual(own_map(Queue(1, Hours([]), [(7, 5)]), 0), nowhere())
        self.assertEqual(own_map(queue=Queue(1, Hours(), [(3, 5), (7, 5)]), index=1).rows, ((0, 0, True), (3, 8, False), (9, 9, True)))
        # Ahead of a caller with a lesser index it stands with an earlier arrival alone.
        self.assertEqual(own_map(Queue(1, Hours(), [(3, 5), (7, 5)]), 0).rows, ((0, 0, True), (8, 12, False), (13, 13, True)))
        self.assertEqual(own_map(Queue(1, Hours(), [(0, 5), (7, 5)]), 1).rows, ((0, 5, False), (6, 6, True)))
        # Behind one who never begins it never begins.
        self.assertEqual(own_map(Queue(1, Hours([(0, 20)]), [(4, 30), (0, 5)]), 1).rows, ((0, 0, True), (4, None, False)))
        self.assertEqual(own_map(Queue(1, Hours(), [(9999, 5), (0, 600)]), 1).rows[1], (9999, 10004, False))

    def test_it_goes_on_behind_the_told_minutes(self):
        queue = Queue(2, Hours(), CALLERS)
        for index in range(4):
            self.assertEqual(own_map(queue, index)(10 ** 6), 10 ** 6)
        self.assertEqual(own_map(Queue(1, Hours([(0, 99)]), [(7, 5)]), 0).last(), 94)


class Latest(Promises):
    def test_around_its_answers(self):
        seen = set()
        for queue in some_queues(40, 2):
            for index in range(len(queue)):
                for minute in (0, 3, 7, 12, 25, 60):
                    found = latest_arrival(queue, index, minute)
                    seen.add(found is None)
                    kept = [arrival for arrival in range(80) if known(begins_with(queue, index, arrival)[index]) <= minute]
                    self.assertEqual(found, max(kept, default=None))
        self.assertEqual(seen, {True, False})

    def test_none_and_the_last_told_minute(self):
        queue = Queue(1, Hours(), [(0, 5), (7, 5)])
        self.assertIs(latest_arrival(queue, 1, 4), None)
        self.assertEqual(latest_arrival(queue, 1, 5), 5)
        self.assertEqual(latest_arrival(queue, 1, 9998), 9998)
        for minute in (9999, 10000, 10 ** 15):
            self.assertEqual(latest_arrival(queue=queue, index=1, minute=minute), 9999)
        self.assertIs(latest_arrival(Queue(1, Hours([]), [(0, 5)]), 0, 10 ** 9), None)


class Steps(Promises):
    def test_by_the_words(self):
        for queue in some_queues(120, 3):
            for index in range(len(queue)):
                found = set()
                for other in range(len(queue)):
                    behind = [arrival for arrival in range(40) if other != index
                              and directly_behind(queue.arrived(index, arrival), index, other)]
                    found |= set(behind[:1])
                self.assertEqual(steps_of(queue, index), sorted(step for step in found if step > queue.callers[index][0]))

    def test_told_minutes_alone(self):
        queue = Queue(1, Hours(), [(5, 1), (9999, 1), (9998, 1)])
        self.assertEqual([steps_of(queue, index) for index in range(3)], [[9999], [], [9999]])
        self.assertEqual(steps_of(queue=Queue(1, Hours(), [(5, 1), (5, 1), (5, 1)]), index=0), [6])
        self.assertEqual(steps_of(Queue(1, Hours(), [(5, 1), (5, 1), (5, 1)]), 2), [])


class Effects(Promises):
    def test_by_the_words(self):
        seen = set()
        for queue in some_queues(80, 4):
            begins = queue.begin_list()
            for index in range(len(queue)):
                own = queue.callers[index][0]
                for arrival in (own, own + 1, own + 4, 30):
                    later = queue.arrived(index, arrival)
                    told = effects(queue, index, arrival)
                    self.assertEqual(list(told), [other for other in range(len(queue)) if other != index])
                    for other, (word, now, then) in told.items():
                        seen.add(word)
                        self.assertEqual((now, then), (begins[other], later.begin_list()[other]))
                        ways = (is_before(queue, other, index), is_before(later, other, index))
                        self.assertEqual(word, {(True, True): "ahead", (False, True): "overtakes", (False, False): "behind"}[ways])
                        # [39]: what each of them can lose or gain.
                        if word == "ahead":
                            self.assertEqual(now, then)
                        if word == "overtakes":
                            self.assertLessEqual(known(then), known(now))
                        if word == "behind" and queue.desks == 1 and queue.hours.spans() is None:
                            self.assertLessEqual(known(now), known(then))
                        if word == "behind" and queue.tickets() == later.tickets():
                            self.assertLessEqual(known(now), known(then))
                    self.assertLessEqual(known(begins[index]), known(later.begin_list()[index]))
        self.assertEqual(seen, {"ahead", "overtakes", "behind"})

    def test_told(self):
        self.assertEqual(effects(queue=EXAMPLE, index=1, arrival=1), {0: ("ahead", 0, 0), 2: ("behind", 2, 2), 3: ("behind", 9, 10)})
        self.assertEqual(effects(EXAMPLE, 2, 3), {0: ("ahead", 0, 0), 1: ("ahead", 0, 0), 3: ("overtakes", 9, 2)})
        self.assertEqual(effects(Queue(1, Hours(), [(9999, 0)]), 0, 9999), {})

    def test_refusals(self):
        self.refuses_each(BadNumber, [*NO_TOLD_MINUTES, 4], lambda arrival: effects(Queue(2, Hours(), CALLERS), 0, arrival))
        self.assertEqual(len(effects(Queue(2, Hours(), CALLERS), 0, 5)), 3)


class Best(Promises):
    def test_against_all_arrivals(self):
        gained = 0
        for queue in some_queues(70, 5, 4, 10):
            for index in range(len(queue)):
                for who in [who for who in range(len(queue)) if who != index]:
                    tried = [(known(begins_with(queue, index, arrival)[who]), arrival)
                             for arrival in [*range(queue.callers[index][0], 40), 9998, 9999]]
                    begin, arrival = min(tried)
                    self.assertEqual(best_later(queue, index, who), (arrival, None if begin == known(None) else begin))
                    gained += arrival > queue.callers[index][0]
        self.assertGreater(gained, 20)

    def test_the_example(self):
        self.assertEqual((EXAMPLE.begin_list(), best_later(queue=EXAMPLE, index=2, who=3)), ([0, 0, 2, 9], (3, 2)))

    def test_a_like_one(self):
        self.refuses(BadIndex, 2, best_later, EXAMPLE, 2, 2)


class Gains(Promises):
    def test_all_steps(self):
        many = 0
        for queue in [*some_queues(60, 6), *many_callers(60)]:
            every = gains_by_trying(queue, range(40))
            found = gains_of(queue)
            self.assertEqual(found, sorted(gain for gain in every if gain[1] in steps_of(queue, gain[0])))
            many += len(found)
            # A gain is greatest at a step: who gains at all gains at one, and nowhere more.
            for index, arrival, who in every:
                begin = begins_with(queue, index, arrival)[who]
                steps = [begins_with(queue, index, step)[who] for one, step, other in found if (one, other) == (index, who)]
                self.assertTrue(steps)
                self.assertLessEqual(min(map(known, steps)), known(begin))
        self.assertGreater(many, 30)

    def test_nobody_at_one_desk_that_is_always_open(self):
        for queue in some_queues(100, 7, opened=True):
            if queue.desks == 1:
                self.assertEqual(gains_of(queue), [])
                self.assertEqual(gains_by_trying(queue, range(30)), [])

    def test_told(self):
        self.assertEqual(gains_of(queue=Queue(2, Hours(), [(0, 10), (1, 1), (2, 10), (3, 1)])), [])
        self.assertEqual(gains_of(Queue(2, Hours(), [(0, 2), (0, 9), (1, 9), (2, 3), (4, 1)])),
                         [(1, 3, 4), (2, 3, 4)])
        # Caller 1 waits until the desks are free for a short one in the hours that are left.
        self.assertEqual(gains_of(Queue(1, Hours([(0, 5), (10, 20)]), [(0, 6), (1, 3)])), [])
        self.assertEqual(gains_of(Queue(1, Hours([(0, 5), (10, 20)]), [(0, 6), (1, 3), (2, 2)])), [(0, 2, 2)])
        self.assertEqual(gains_of(Queue(1, Hours(), [])), [])


class StillRises(Promises):
    def test_spaced_begins(self):
        chance = random.Random(8)
        for queue in some_queues(200, 8, 9, opened=True):
            n = chance.choice([0, 1, 4, 30])
            same = Queue(queue.desks, Hours(), [(arrival, n) for arrival, _ in queue.callers])
            self.assertEqual(spaced_begins(queue=same), same.begins_in_row())
        self.assertEqual(spaced_begins(Queue(2, Hours(), [])), [])
        self.assertEqual(spaced_begins(Queue(2, Hours(), [(5, 4), (0, 4), (1, 4), (1, 4)])), [0, 1, 4, 5])

    def test_busy_end(self):
        for queue in some_queues(150, 9, 7, opened=True):
            one = Queue(1, Hours(), queue.callers)
            self.assertEqual(busy_end(queue=one), one.last_end())
            order = list(range(len(one)))[::-1]
            ends = [begin + n for begin, (_, n) in zip(by_list(one, order), one.callers)]
            self.assertEqual(busy_end(one), max(ends, default=0))
        self.assertEqual(busy_end(Queue(1, Hours(), [])), 0)
        self.assertEqual(busy_end(Queue(1, Hours(), [(9, 2), (0, 4), (9, 1), (3, 2)])), 12)

    def test_refusals(self):
        for call in (spaced_begins, busy_end):
            self.refuses_part("queue", NO_QUEUES, call)
            for spans in ([], [(0, 9999)]):
                self.refuses(NotSo, "open", call, Queue(2, Hours(spans), CALLERS))
        self.refuses(NotSo, "alike", spaced_begins, Queue(1, Hours(), CALLERS))
        self.refuses(NotSo, "alike", spaced_begins, Queue(1, Hours(), [(0, 4), (1, 4), (1, 5)]))
        for desks in (2, 3):
            self.refuses(NotSo, "desks", busy_end, Queue(desks, Hours(), CALLERS))
            self.refuses(NotSo, "desks", busy_end, Queue(desks, Hours(), []))


class Refusals(Promises):
    def test_in_their_order(self):
        queue = Queue(2, Hours(), CALLERS)
        self.refuses_part("queue", NO_QUEUES, gains_of)
        for call in (own_map, steps_of, lambda queue, index: latest_arrival(queue, index, -1),
                     lambda queue, index: effects(queue, index, -1), lambda queue, index: best_later(queue, index, -1)):
            self.refuses_part("queue", NO_QUEUES, lambda value: call(value, -1))
            self.refuses_each(BadIndex, NO_INDEXES, lambda index: call(queue, index))
        self.refuses_each(BadIndex, NO_INDEXES, lambda who: best_later(queue, 0, who))
        self.refuses_each(BadNumber, NO_COUNTS, lambda minute: latest_arrival(queue, 0, minute))

    def test_what_is_handed_out_and_changed_later(self):
        queue = Queue(2, Hours(), [(0, 2), (0, 9), (1, 9), (2, 3), (4, 1)])
        for call in (lambda: steps_of(queue, 1), lambda: effects(queue, 1, 3), lambda: gains_of(queue)):
            first = call()
            self.assertTrue(first)
            call().clear()
            self.assertEqual(call(), first)
        self.assertEqual(since(5), own_map(Queue(1, Hours(), [(0, 5), (7, 5)]), 1))


if __name__ == "__main__":
    unittest.main()
