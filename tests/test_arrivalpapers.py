"""[40], [41]: papers about queues."""
import random
import sys
import unittest
from pathlib import Path

sys.path.insert(0, str(Path(__file__).parent))

from checks import NO_COUNTS, ODD, Promises, known
from risingday.arrivalpapers import busy_paper, gains_paper, lets_gains, shown_by, spaced_paper
from risingday.arrivals import Queue
from risingday.errors import BadIndex, BadNumber, NotSo
from risingday.hours import Hours
from risingday.shifts import busy_end, gains_of, spaced_begins
from test_arrivals import CALLERS, NO_INDEXES, NO_QUEUES
from test_shifts import begins_with, gains_by_trying, many_callers, some_queues

SHUT = [[], [(0, 9999)]]
ONE = Queue(1, Hours(), [(9, 2), (0, 4), (9, 1), (3, 2)])
LIKE = Queue(2, Hours(), [(5, 4), (0, 4), (1, 4), (1, 4)])
GAIN = Queue(2, Hours(), [(0, 2), (0, 9), (1, 9), (2, 3), (4, 1)])


def one_desk(queue):
    return Queue(1, Hours(), queue.callers)


def one_n(queue, n=4):
    return Queue(queue.desks, Hours(), [(arrival, n) for arrival, _ in queue.callers])


def busy_by_hand(queue, index):
    return queue.callers[index][0] + sum(n for arrival, n in queue.callers if arrival >= queue.callers[index][0])


def spaced_by_hand(queue, j, i):
    return sorted(arrival for arrival, _ in queue.callers)[i] + queue.callers[0][1] * ((j - i) // queue.desks)


class Busy(Promises):
    def test_told_papers(self):
        for queue in map(one_desk, some_queues(100, 1, 7, opened=True)):
            paper = busy_paper(queue)
            if not len(queue):
                self.assertIs(paper, None)
                continue
            shown = [busy_by_hand(queue, index) for index in range(len(queue))]
            self.assertEqual(paper, ("busy", shown.index(max(shown))))
            self.assertEqual(shown_by(queue, paper), busy_end(queue))
            for index in range(len(queue)):
                self.assertEqual(shown_by(queue=queue, value=("busy", index)), shown[index])
        self.assertEqual((busy_paper(queue=ONE), shown_by(ONE, ("busy", 0)), shown_by(ONE, ("busy", 1))), (("busy", 0), 12, 9))
        self.assertEqual(busy_paper(Queue(1, Hours(), [(3, 1), (0, 4), (0, 0)])), ("busy", 1))

    def test_refusals(self):
        self.refuses_part("queue", NO_QUEUES, busy_paper)
        for spans in SHUT:
            self.refuses(NotSo, "open", busy_paper, Queue(2, Hours(spans), CALLERS))
        self.refuses(NotSo, "desks", busy_paper, Queue(2, Hours(), []))


class Spaced(Promises):
    def test_told_papers(self):
        chance = random.Random(2)
        for queue in some_queues(100, 2, 8, opened=True):
            queue = one_n(queue, chance.choice([0, 1, 4, 9]))
            for j in range(len(queue)):
                paper = spaced_paper(queue, j)
                shown = [spaced_by_hand(queue, j, i) for i in range(j + 1)]
                self.assertEqual(paper, ("spaced", j, shown.index(max(shown))))
                self.assertEqual(shown_by(queue, paper), spaced_begins(queue)[j])
                self.assertEqual([shown_by(queue, ("spaced", j, i)) for i in range(j + 1)], shown)
        self.assertEqual((spaced_paper(queue=LIKE, j=3), spaced_paper(LIKE, 2), shown_by(LIKE, ("spaced", 3, 0))),
                         (("spaced", 3, 1), ("spaced", 2, 0), 4))

    def test_refusals(self):
        self.refuses_part("queue", NO_QUEUES, lambda queue: spaced_paper(queue, -1))
        for spans in SHUT:
            self.refuses(NotSo, "open", spaced_paper, Queue(2, Hours(spans), CALLERS), -1)
        self.refuses(NotSo, "alike", spaced_paper, Queue(1, Hours(), CALLERS), -1)
        self.refuses_each(BadNumber, NO_INDEXES, lambda j: spaced_paper(LIKE, j))
        self.refuses(BadNumber, 0, spaced_paper, Queue(1, Hours(), []), 0)


class Gains(Promises):
    def test_told_papers(self):
        found = 0
        for queue in [*some_queues(60, 3), *many_callers(40)]:
            every = gains_by_trying(queue, range(1, 30))
            for who in range(len(queue)):
                paper = gains_paper(queue, who)
                least = min([(known(begins_with(queue, index, arrival)[who]), index, arrival)
                             for index, arrival, other in every if other == who], default=None)
                self.assertEqual(paper, None if least is None else ("gains", least[1], least[2], who))
                if paper is not None:
                    found += 1
                    self.assertIs(lets_gains(queue, paper), True)
        self.assertGreater(found, 20)

    def test_told(self):
        self.assertEqual([gains_paper(queue=GAIN, who=who) for who in range(5)], [None, None, None, None, ("gains", 2, 3, 4)])

    def test_refusals(self):
        self.refuses_part("queue", NO_QUEUES, lambda queue: gains_paper(queue, -1))
        self.refuses_each(BadIndex, [*NO_COUNTS, 5], lambda who: gains_paper(GAIN, who))


class Judges(Promises):
    def test_values_of_no_form(self):
        wrong = [*ODD, None, 5, [], (), ("busy",), ("busy", 0, 0), ["busy", 0], ("Busy", 0), ("gains", 0), ("spaced", 0),
                 ("busy", 0, 0, 0), ("spaced", 0, 0, 0), ["spaced", 0, 0], (b"busy", 0), (None, 0), (["busy"], 0), (0, "busy")]
        for value in wrong:
            for queue in (ONE, LIKE, GAIN, one_n(ONE), Queue(1, Hours(), [])):
                self.assertIs(shown_by(queue, value), None, value)
                self.assertIs(lets_gains(queue, value), False, value)
        for index in NO_INDEXES:
            self.assertIs(shown_by(ONE, ("busy", index)), None, index)
            self.assertIs(shown_by(LIKE, ("spaced", index, 0)), None, index)
            self.assertIs(shown_by(LIKE, ("spaced", 3, index)), None, index)
        self.assertIs(shown_by(LIKE, ("spaced", 1, 2)), None)
        self.assertEqual(shown_by(LIKE, ("spaced", 2, 2)), 1)

    def test_papers_of_other_queues(self):
        for spans in SHUT:
            self.assertIs(shown_by(Queue(1, Hours(spans), LIKE.callers), ("busy", 0)), None)
            self.assertIs(shown_by(Queue(1, Hours(spans), LIKE.callers), ("spaced", 0, 0)), None)
        self.assertIs(shown_by(Queue(2, Hours(), ONE.callers), ("busy", 0)), None)
        self.assertIs(shown_by(ONE, ("spaced", 0, 0)), None)
        self.assertEqual(shown_by(one_n(ONE), ("busy", 0)), 17)
        self.assertEqual(shown_by(one_n(ONE), ("spaced", 3, 2)), 13)

    def test_gains_by_the_words(self):
        chance = random.Random(4)
        seen = set()
        for queue in [*some_queues(20, 5), *many_callers(20)]:
            every = gains_by_trying(queue, range(1, 14))
            for index in range(-1, len(queue) + 1):
                for who in range(-1, len(queue) + 1):
                    for arrival in range(0, 14):
                        found = lets_gains(queue, ("gains", index, arrival, who))
                        self.assertIs(found, (index, arrival, who) in every)
                        seen.add(found)
            for gain in every:
                for place, wrong in [(1, True), (2, None), (2, 10000), (3, False), (2, [5]), (0, "gain"), (3, gain[0])]:
                    paper = ["gains", *gain]
                    paper[place] = wrong
                    self.assertIs(lets_gains(queue, tuple(paper)), False)
                self.assertIs(lets_gains(queue, ["gains", *gain]), False)
                self.assertIs(lets_gains(queue, ("gains", *gain, 0)), False)
        self.assertEqual(seen, {True, False})
        self.assertIs(lets_gains(queue=GAIN, value=("gains", *chance.choice(gains_of(GAIN)))), True)

    def test_refusals(self):
        for call in (shown_by, lets_gains):
            self.refuses_part("queue", NO_QUEUES, lambda queue: call(queue, 5))


if __name__ == "__main__":
    unittest.main()
