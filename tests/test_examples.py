"""Every example of the interface, as it is told there."""
import unittest

from risingday.alike import alike
from risingday.arrivals import Queue
from risingday.bearing import bears
from risingday.chains import chain_of
from risingday.counters import Counter
from risingday.days import Day
from risingday.errors import BadOrder, NoWay
from risingday.hours import Hours
from risingday.means import eased, least_picks
from risingday.moments import moment, moments, not_plain
from risingday.needs import groups, rests_on
from risingday.nth import needed_below
from risingday.people import Person
from risingday.places import Ways
from risingday.rising import since, steady, until
from risingday.rules import counter_row, room_row
from risingday.shifts import best_later
from risingday.slots import by_slots, set_out
from risingday.summaries import Summary

TWO = [Person("ann", "inn", 0, [("counter", "bank", 10)]), Person("bo", "inn", 0, [("counter", "bank", 4)])]
WAYS = Ways({("inn", "hall"): steady(5)})


class Examples(unittest.TestCase):
    def test_maps_and_slots(self):
        way = by_slots(60, [20, 5])
        late = way >> until(70)
        self.assertEqual((way.rows, way(46), set_out(60, [20, 5], 46), way.back(64), late.last(), (since(5) | until(8)).rows),
                         (((0, 20, True), (46, 65, False), (61, 66, True)), 65, 60, 44, 65,
                          ((0, 5, False), (6, 6, True), (9, None, False))))

    def test_hours_nths_and_rules(self):
        hours = Hours([(0, 12), (20, 40)])
        self.assertEqual(([hours.gate(10, t) for t in (2, 3, 30, 31)], needed_below([7, None, 3, 7], 3),
                          counter_row([5, 3], [10, 4], 1, Hours()), room_row([0, 20], [60, 5], 5, [10, None])),
                         ([2, 20, 30, None], [1, 3], [(5, 15), (15, 19)], [(0, 30), (35, 40)]))

    def test_days(self):
        keys = [("ann", 0), ("bo", 0)]
        self.assertEqual(Day(TWO, WAYS, [Counter("bank", "hall", order=keys)]).all_keys(), keys)
        with self.assertRaises(BadOrder) as caught:
            Day(TWO, WAYS, [Counter("bank", "hall", order=[("ann", 0)])])
        self.assertEqual(caught.exception.name, "bank")
        with self.assertRaises(NoWay) as caught:
            Day(TWO, Ways(), [Counter("bank", "hall", order=keys)])
        self.assertEqual(caught.exception.pair, ("inn", "hall"))

    def test_moments(self):
        day = Day([Person("a", "h", 0, [("stay", "p", 10)])], Ways({("h", "p"): steady(5)}))
        self.assertEqual(moments(day), {("a", 0, "arrives"): 5, ("a", 0, "begins"): 5, ("a", 0, "ends"): 15})
        self.assertEqual(rests_on(day, ("a", 0, "ends")), [("a", 0, "arrives"), ("a", 0, "begins")])
        self.assertEqual((groups(day), not_plain(day)), ([["a"]], []))

    def test_chains(self):
        bank = Counter("bank", "hall", order=[("ann", 0), ("bo", 0)])
        self.assertEqual(chain_of(Day(TWO, WAYS, [bank]), ("bo", 0, "begins")),
                         (("ann", 0, "arrives"), ("ann", 0, "begins"), ("ann", 0, "ends"), ("bo", 0, "begins")))

    def test_lateness(self):
        people = [Person("a", "inn", 0, [("counter", "bank", 10)]), Person("b", "mill", 0, [("counter", "bank", 4)])]
        ways = Ways({("inn", "hall"): steady(5), ("mill", "hall"): steady(3)})
        day = Day(people, ways, [Counter("bank", "hall", order=[("a", 0), ("b", 0)])])
        self.assertEqual([bears(day, ("leaves", name), ("b", 0, "ends"), 30) for name in ("a", "b")], [11, 23])

    def test_days_as_maps(self):
        people = [Person("ann", "inn", 0, [("counter", "bank", 10)]), Person("bob", "hut", 0, [("counter", "bank", 4)])]
        legs = Ways({("inn", "hall"): steady(5), ("hut", "hall"): steady(3)})
        day = Day(people, legs, [Counter("bank", "hall", order=[("ann", 0), ("bob", 0)])])
        told, key = Summary(day), ("bob", 0, "begins")
        self.assertEqual((told.number_of(key), told.base_of(key), told.free_minute(key, "bob"), told.latest(key, "bob", 30),
                          told.latest_of_all(key, 30)), (15, 15, 12, 27, 15))
        self.assertIs(alike(day, day), True)

    def test_counters_by_arrival(self):
        queue = Queue(2, Hours(), [(0, 2), (0, 9), (1, 9), (2, 3)])
        self.assertEqual((queue.begin_list(), best_later(queue, 2, 3)), ([0, 0, 2, 9], (3, 2)))

    def test_means(self):
        people = [Person(name, "hall", 0, [("counter", "till", 10)]) for name in ("a", "b")]
        day = Day(people, None, [Counter("till", "hall", order=[("a", 0), ("b", 0)])])
        menu = [("desk", "till"), ("less", ("a", 0), 5), ("less", ("b", 0), 4)]
        self.assertEqual(moment(day, ("b", 0, "ends")), 20)
        self.assertEqual(least_picks(day, [(("b", 0, "ends"), 15)], menu), [(0,), (1,)])
        self.assertEqual(moment(eased(day, menu, (2,)), ("b", 0, "ends")), 16)


if __name__ == "__main__":
    unittest.main()
