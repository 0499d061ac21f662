"""[38], [39] (struck callers, a greater n), [40] (begins in a row), [41] (counters by arrival): queues."""
import itertools
import random
import sys
import unittest
from pathlib import Path

sys.path.insert(0, str(Path(__file__).parent))

from byhand import ByHand, some_days, worked
from checks import NO_COUNTS, NO_LISTS, ODD, Promises, known
from risingday.arrivals import Queue, by_list, is_before, queue_of, ticket_day
from risingday.counters import Counter
from risingday.days import Day, changed_by
from risingday.errors import BadIndex, BadName, BadNumber, BadPart, NotSo, Ring
from risingday.hours import Hours
from risingday.moments import moments
from risingday.needs import shortest_ring
from risingday.people import Person
from risingday.places import Ways
from risingday.rising import nowhere, since, steady
from test_days import told
from test_keys import NO_DAYS
from test_needs import at_one_place

CALLERS = [(5, 3), (2, 7), (5, 0), (0, 4)]
NO_QUEUES = [*ODD, None, 5, [], {}, CALLERS, Queue, Hours(), Day()]
NO_INDEXES = [*NO_COUNTS, 4, 10 ** 9]


def some_queue(chance, most=6, last=14, opened=None, desks=None):
    spans = sorted(chance.sample(range(40), 4))
    hours = chance.choice([None, None, [(spans[0], spans[1]), (spans[2], spans[3] + 20)], [(spans[0], 9000)], []])
    callers = [(chance.randrange(last), chance.choice([0, 1, 2, 3, 5, 9])) for _ in range(chance.randrange(most + 1))]
    return Queue(desks or chance.randrange(1, 4), Hours(None if opened else hours), callers)


def row_by_hand(queue, order=None):
    """The (begin, end) of all callers by index, by the words of [8]."""
    order = order or sorted(range(len(queue.callers)), key=lambda index: (queue.callers[index][0], index))
    spans = queue.hours.spans()
    row = {}
    for j, index in enumerate(order):
        arrival, n = queue.callers[index]
        t = max([known(arrival), *[known(row[other][0]) for other in order[:j]]])
        ends = sorted(known(row[other][1]) for other in order[:j])
        if j >= queue.desks:
            t = max(t, ends[j - queue.desks])
        if t >= known(None):
            begin = None
        elif spans is None:
            begin = t
        else:
            begin = min([max(t, start) for start, end in spans if max(t, start) + n <= end], default=None)
        row[index] = (begin, None if begin is None else begin + n)
    return [row[index] for index in range(len(order))]


def by_list_by_hand(queue, order):
    """Minute by minute: at each free desk the first one in the list that has come begins."""
    begins = [None] * len(order)
    busy = []
    minute = 0
    while None in begins:
        busy = [end for end in busy if end > minute]
        waiting = [index for index in order if begins[index] is None and queue.callers[index][0] <= minute]
        if waiting and len(busy) < queue.desks:
            begins[waiting[0]] = minute
            busy.append(minute + queue.callers[waiting[0]][1])
        else:
            minute += 1
    return begins


class Queues(Promises):
    def test_attributes(self):
        hours = Hours([(0, 9)])
        queue = Queue(desks=2, hours=hours, callers=CALLERS)
        self.assertEqual((queue.desks, queue.hours, queue.callers), (2, hours, tuple(CALLERS)))
        self.assertIs(queue.callers.__class__, tuple)
        self.assertEqual(len(queue), 4)
        self.assertEqual(len(Queue(1, Hours(), [])), 0)
        self.assertEqual(len(Queue(3, Hours(), [(9999, 600)] * 12)), 12)

    def test_equal(self):
        queue = Queue(2, Hours(), CALLERS)
        self.assertTrue(queue == Queue(2, Hours(None), tuple(CALLERS)))
        self.assertFalse(queue != Queue(2, Hours(), CALLERS))
        for other in [Queue(1, Hours(), CALLERS), Queue(2, Hours([(0, 9999)]), CALLERS), Queue(2, Hours(), CALLERS[::-1]),
                      Queue(2, Hours(), CALLERS[:3]), Queue(2, Hours(), []), 5, None, CALLERS, tuple(CALLERS)]:
            self.assertFalse(queue == other)
            self.assertTrue(queue != other)

    def test_cannot_be_iterated(self):
        self.cannot_be_iterated(Queue(1, Hours(), CALLERS))
        with self.assertRaises(TypeError):
            CALLERS[0] in Queue(1, Hours(), CALLERS)

    def test_refusals_in_their_order(self):
        self.refuses_part("desks", [*NO_COUNTS, 0, 4, [1]], lambda desks: Queue(desks, 5, 5))
        self.refuses_part("hours", [*ODD, None, 5, [], [(0, 9)], Hours], lambda hours: Queue(1, hours, 5))
        self.refuses_part("callers", [*NO_LISTS, [(0, 0)] * 13, [5] * 13], lambda callers: Queue(1, Hours(), callers))
        for wrong in [*ODD, None, 5, [], (), (0,), (0, 0, 0), [0, 0], (-1, 0), (10000, 0), (0, -1), (0, 601), (None, 0),
                      (0, None), (True, 0), (0, False), ("0", 0), ((0, 0),)]:
            self.refuses(BadIndex, 1, Queue, 1, Hours(), [(0, 0), wrong, 5])
            self.refuses(BadIndex, 0, Queue, 1, Hours(), (wrong,))
        self.assertEqual(Queue(1, Hours(), [(0, 600), (9999, 0)]).callers, ((0, 600), (9999, 0)))

    def test_changed_later(self):
        callers = list(CALLERS)
        queue = Queue(1, Hours(), callers)
        callers.clear()
        queue.tickets().clear()
        queue.begin_list().clear()
        queue.end_list().clear()
        queue.begins_in_row().clear()
        self.assertEqual((queue.callers, queue.tickets()), (tuple(CALLERS), [3, 1, 0, 2]))
        self.assertEqual((len(queue.begin_list()), len(queue.end_list()), len(queue.begins_in_row())), (4, 4, 4))


class Rows(Promises):
    def test_by_hand(self):
        chance = random.Random(1)
        seen = set()
        for _ in range(400):
            queue = some_queue(chance, 7)
            row = row_by_hand(queue)
            begins, ends = [begin for begin, _ in row], [end for _, end in row]
            self.assertEqual(queue.tickets(), sorted(range(len(row)), key=lambda index: (queue.callers[index][0], index)))
            self.assertEqual((queue.begin_list(), queue.end_list()), (begins, ends))
            self.assertEqual(queue.begins_in_row(), sorted(begins, key=known))
            self.assertEqual(queue.last_end(), max(ends, key=known, default=0))
            seen.add((queue.desks, queue.hours.spans() is None, queue.hours.spans() == [], None in begins))
        self.assertTrue({(desks, False, True, True) for desks in (1, 2, 3)} <= seen)
        self.assertTrue({(desks, opened, False, False) for desks in (1, 2, 3) for opened in (True, False)} <= seen)

    def test_by_the_rule_of_a_counter(self):
        chance = random.Random(2)
        for _ in range(60):
            queue = some_queue(chance)
            names = ["bo", "ann", "cy", "di", "ed", "flo"][:len(queue)]
            people = [Person(name, "inn", arrival, [("counter", "bank", n)]) for name, (arrival, n) in zip(names, queue.callers)]
            order = [(names[index], 0) for index in queue.tickets()]
            values = worked(Day(people, None, [Counter("bank", "inn", queue.desks, queue.hours, order)]))
            self.assertEqual(queue.begin_list(), [values[name, 0, "begins"] for name in names])
            self.assertEqual(queue.end_list(), [values[name, 0, "ends"] for name in names])

    def test_told_rows(self):
        queue = Queue(1, Hours([(0, 10), (20, 24)]), CALLERS)
        # 3 from 0 to 4, 1 has to go behind 10 and does not fit, so nobody behind it has a begin.
        self.assertEqual((queue.begin_list(), queue.end_list()), ([None, None, None, 0], [None, None, None, 4]))
        self.assertEqual((queue.last_end(), queue.begins_in_row()), (None, [0, None, None, None]))
        queue = Queue(2, Hours(), CALLERS)
        self.assertEqual((queue.begin_list(), queue.last_end()), ([5, 2, 8, 0], 9))
        self.assertEqual((queue.begins_in_row(), queue.tickets()), ([0, 2, 5, 8], [3, 1, 0, 2]))

    def test_never_and_always_open_and_without_callers(self):
        empty = Queue(1, Hours([]), [])
        self.assertEqual((empty.tickets(), empty.begin_list(), empty.end_list(), empty.begins_in_row(), empty.last_end()),
                         ([], [], [], [], 0))
        closed = Queue(3, Hours([]), CALLERS)
        self.assertEqual((closed.begin_list(), closed.last_end()), ([None] * 4, None))

    def test_alike_arrivals_by_index(self):
        self.assertEqual(Queue(1, Hours(), [(7, 1), (3, 1), (7, 0), (3, 9)]).tickets(), [1, 3, 0, 2])


class Others(Promises):
    def test_new_queues(self):
        queue = Queue(2, Hours([(0, 99)]), CALLERS)
        for made, callers in [(queue.arrived(1, 9999), [(5, 3), (9999, 7), (5, 0), (0, 4)]),
                              (queue.arrived(index=0, arrival=0), [(0, 3), (2, 7), (5, 0), (0, 4)]),
                              (queue.without(2), [(5, 3), (2, 7), (0, 4)]), (queue.without(index=0), CALLERS[1:]),
                              (queue.lasting(3, 600), [*CALLERS[:3], (0, 600)]), (queue.lasting(index=0, n=0), [(5, 0), *CALLERS[1:]])]:
            self.assertEqual(made, Queue(2, Hours([(0, 99)]), callers))
        self.assertEqual(queue, Queue(2, Hours([(0, 99)]), CALLERS))

    def test_refusals(self):
        queue = Queue(2, Hours(), CALLERS)
        self.refuses_each(BadIndex, NO_INDEXES, lambda index: queue.arrived(index, -1))
        self.refuses_each(BadIndex, NO_INDEXES, queue.without)
        self.refuses_each(BadIndex, NO_INDEXES, lambda index: queue.lasting(index, -1))
        self.refuses_each(BadNumber, [*NO_COUNTS, 10000], lambda arrival: queue.arrived(0, arrival))
        self.refuses_each(BadNumber, [*NO_COUNTS, 601], lambda n: queue.lasting(3, n))
        self.refuses(BadIndex, 0, Queue(1, Hours(), []).without, 0)

    def test_struck_callers_and_a_greater_n(self):
        chance = random.Random(3)
        for _ in range(150):
            queue = some_queue(chance)
            begins = [known(begin) for begin in queue.begin_list()]
            for index in range(len(queue)):
                struck = queue.without(index).begin_list()
                rest = begins[:index] + begins[index + 1:]
                self.assertTrue(all(known(begin) <= now for begin, now in zip(struck, rest)))
                longer = queue.lasting(index, queue.callers[index][1] + chance.randrange(9)).begin_list()
                self.assertTrue(all(known(begin) >= now for begin, now in zip(longer, begins)))

    def test_begins_in_a_row_rise_with_one_n(self):
        chance = random.Random(4)
        for _ in range(200):
            queue = some_queue(chance)
            for index in range(len(queue)):
                queue = queue.lasting(index, 4)
            later = queue
            for index in range(len(queue)):
                later = later.arrived(index, queue.callers[index][0] + chance.choice([0, 0, 1, 9]))
            self.assertTrue(all(known(one) <= known(two) for one, two in zip(queue.begins_in_row(), later.begins_in_row())))


class Before(Promises):
    def test_is_before(self):
        queue = Queue(1, Hours(), CALLERS)
        tickets = queue.tickets()
        for one, other in itertools.product(range(4), repeat=2):
            self.assertIs(is_before(queue, one, other), tickets.index(one) < tickets.index(other))
        self.assertIs(is_before(queue=queue, one=0, other=2), True)

    def test_refusals(self):
        queue = Queue(1, Hours(), CALLERS)
        self.refuses_part("queue", NO_QUEUES, lambda value: is_before(value, -1, -1))
        self.refuses_each(BadIndex, NO_INDEXES, lambda one: is_before(queue, one, -1))
        self.refuses_each(BadIndex, NO_INDEXES, lambda other: is_before(queue, 0, other))


class Lists(Promises):
    def test_all_orders_minute_by_minute(self):
        chance = random.Random(5)
        for turn in range(60):
            queue = some_queue(chance, 4, 8, opened=True)
            for order in itertools.permutations(range(len(queue))):
                self.assertEqual(by_list(queue, list(order)), by_list_by_hand(queue, order))

    def test_callers_with_n_of_nought(self):
        queue = Queue(1, Hours(), [(3, 0), (3, 0), (3, 5), (3, 0)])
        self.assertEqual(by_list(queue, [0, 3, 2, 1]), [3, 8, 3, 3])
        self.assertEqual(by_list(queue=queue, order=(2, 1, 0, 3)), [8, 8, 3, 8])

    def test_the_tickets_as_a_list(self):
        chance = random.Random(6)
        for _ in range(80):
            queue = some_queue(chance, 8, opened=True)
            self.assertEqual(by_list(queue, queue.tickets()), queue.begin_list())

    def test_a_list_that_helps_one_who_comes_later(self):
        queue = Queue(1, Hours(), [(0, 5), (0, 3), (1, 2)])
        self.assertEqual(by_list(queue, [2, 1, 0]), [5, 0, 3])
        self.assertEqual(by_list(queue, [1, 0, 2]), [3, 0, 8])
        self.assertEqual(by_list(Queue(3, Hours(), []), []), [])

    def test_last_ends_by_all_lists(self):
        chance = random.Random(7)
        many = set()
        for _ in range(60):
            queue = some_queue(chance, 5, 9, opened=True)
            ends = {max([begin + n for begin, (_, n) in zip(by_list(queue, list(order)), queue.callers)], default=0)
                    for order in itertools.permutations(range(len(queue)))}
            self.assertLessEqual(max(ends), 2 * min(ends))
            if queue.desks == 1:
                self.assertEqual(ends, {queue.last_end()})
            many.add(len(ends) > 1)
        self.assertEqual(many, {True, False})

    def test_refusals(self):
        queue = Queue(1, Hours(), CALLERS)
        self.refuses_part("queue", NO_QUEUES, lambda value: by_list(value, 5))
        for spans in ([], [(0, 9999)]):
            self.refuses(NotSo, "open", by_list, Queue(1, Hours(spans), CALLERS), 5)
        self.refuses_part("order", [*NO_LISTS, [], [0, 1, 2], [0, 1, 2, 2], [0, 1, 2, 4], [0, 1, 2, -1], [0, 1, 2, None],
                                    [0, 1, 2, 3, 3], [False, True, 2, 3], [0, True, 2, 3], [0, 1, 2, [3]], ["0", 1, 2, 3]],
                          lambda order: by_list(queue, order))
        order = [0, 1, 2, 3]
        by_list(queue, order).clear()
        self.assertEqual(order, [0, 1, 2, 3])


def counter_day(leaves, desks=1, hours=None, order=None, ways=None, extra=()):
    """People who leave the inn for the counter in the hall, n 3, 4, 5 and so on."""
    names = ["bo", "ann", "cy", "di"][:len(leaves)]
    people = [Person(name, "inn", minute, [("counter", "bank", 3 + place), *extra])
              for place, (name, minute) in enumerate(zip(names, leaves))]
    keys = [(name, 0) for name in names]
    order = keys if order is None else [(name, 0) for name in order]
    legs = Ways({("inn", "hall"): ways or steady(5), ("hall", "inn"): steady(5)})
    return Day(people, legs, [Counter("bank", "hall", desks, hours, order)])


class Counters(Promises):
    def test_people_at_one_counter(self):
        day = counter_day([9, 4, 9], order=["cy", "bo", "ann"])
        queue = queue_of(day, "bank")
        self.assertEqual(queue, Queue(1, Hours(), [(14, 3), (9, 4), (14, 5)]))
        by_ticket = ticket_day(day=day, name="bank")
        self.assertEqual(by_ticket.the_counter("bank").order, (("ann", 0), ("bo", 0), ("cy", 0)))
        self.assertEqual(by_ticket, changed_by(day, ("order", "bank", [("ann", 0), ("bo", 0), ("cy", 0)])))

    def test_by_chance(self):
        met = set()
        for day in some_days(150, 4, 2):
            hand = ByHand(day)
            values = hand.values()
            for counter in day.all_counters():
                keys = [key for key in hand.keys if key in counter.order]
                arrivals = [values[(*key, "arrives")] for key in keys]
                hangs = any((*other, "begins") in hand.under((*key, "arrives")) for key in keys for other in keys)
                if hangs or any(arrival is None or arrival > 9999 for arrival in arrivals):
                    met.add("refused")
                    for call in (queue_of, ticket_day):
                        self.refuses(NotSo, "arrival", call, day, counter.name)
                    continue
                met.add(min(len(keys), 2))
                queue = queue_of(day=day, name=counter.name)
                self.assertEqual(queue, Queue(counter.desks, counter.hours,
                                              [(arrival, hand.errand(key)[2]) for key, arrival in zip(keys, arrivals)]))
                by_ticket = moments(ticket_day(day, counter.name))
                self.assertEqual([by_ticket[(*key, "arrives")] for key in keys], arrivals)
                self.assertEqual([by_ticket[(*key, "begins")] for key in keys], queue.begin_list())
                self.assertEqual([by_ticket[(*key, "ends")] for key in keys], queue.end_list())
        self.assertEqual(met, {"refused", 0, 1, 2})

    def test_one_person_and_none(self):
        day = counter_day([7], 2, Hours([(0, 50)]))
        self.assertEqual(queue_of(day, "bank"), Queue(2, Hours([(0, 50)]), [(12, 3)]))
        self.assertEqual(ticket_day(day, "bank"), day)
        day = Day([], None, [Counter("bank", "hall")])
        self.assertEqual((queue_of(day, "bank"), ticket_day(day, "bank")), (Queue(1, Hours(), []), day))

    def test_arrivals_that_hang_on_a_begin_there(self):
        twice = at_one_place({"ann": [("counter", "till", 1), ("counter", "till", 2)]},
                             orders={"till": [("ann", 0), ("ann", 1)]})
        by_others = at_one_place({"ann": [("counter", "till", 1), ("room", "bath", 2)],
                                  "bo": [("room", "bath", 3), ("counter", "till", 2)]},
                                 orders={"till": [("ann", 0), ("bo", 1)], "bath": [("ann", 1), ("bo", 0)]})
        for day in (twice, by_others):
            for call in (queue_of, ticket_day):
                self.refuses(NotSo, "arrival", call, day, "till")
        # The other way round nobody waits for a begin at the counter.
        turned = changed_by(by_others, ("order", "bath", [("bo", 0), ("ann", 1)]))
        self.assertEqual(len(queue_of(turned, "till")), 2)

    def test_arrivals_that_are_no_told_minutes(self):
        for call in (queue_of, ticket_day):
            self.refuses(NotSo, "arrival", call, counter_day([0, 9], ways=nowhere()), "bank")
            self.refuses(NotSo, "arrival", call, counter_day([0, 9], ways=since(10000)), "bank")
            self.refuses(NotSo, "arrival", call, counter_day([0, 9998], ways=steady(2)), "bank")
        self.assertEqual(queue_of(counter_day([0, 9997], ways=steady(2)), "bank").callers, ((2, 3), (9999, 4)))

    def test_refusals(self):
        barred = told()
        for call in (queue_of, ticket_day):
            self.refuses_part("day", NO_DAYS, lambda day: call(day, 5))
            self.refuses_each(BadName, [*ODD, None, 5, [], {}, "talk", "bath", "hall", "ann", "zoe"], lambda name: call(barred, name))
            self.refuses(Ring, shortest_ring(barred), call, barred, "till")


if __name__ == "__main__":
    unittest.main()
