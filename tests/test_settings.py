"""[20]: days changed by a setting."""
import sys
import unittest
from pathlib import Path

sys.path.insert(0, str(Path(__file__).parent))

from byhand import some_days
from checks import NO_COUNTS, NO_NAMES, ODD, Promises
from risingday.counters import Counter
from risingday.days import Day, changed_by
from risingday.errors import BadErrand, BadKey, BadName, BadNumber, BadOrder, BadPart, NoWay
from risingday.hours import Hours
from risingday.meetings import Meeting
from risingday.people import Person
from risingday.places import Ways
from risingday.rising import stay, steady
from risingday.rooms import Room
from test_days import ANN, BANK, BATH, BO, CY, LOFT, NO_ERRAND_KEYS, TALK, TILL, WAYS, told

NO_TOLD_MINUTES = [*NO_COUNTS, 10000]
NO_LENGTHS = [*NO_COUNTS, 601]
PEOPLE, COUNTERS, MEETINGS, ROOMS = [BO, ANN, CY], [TILL, BANK], [TALK], [LOFT, BATH]


class Changed(Promises):
    def changes(self, setting, people=PEOPLE, ways=WAYS, counters=COUNTERS, meetings=MEETINGS, rooms=ROOMS):
        day = told()
        found = changed_by(day, setting)
        self.assertIsInstance(found, Day)
        self.assertTrue(found == Day(people, ways, counters, meetings, rooms), setting)
        self.assertEqual(found.all_counters(), list(counters))
        self.assertTrue(day == told(), "the day that is changed stays as it was")
        return found

    def test_leaves(self):
        for minute in (0, 77, 9999):
            self.changes(("leaves", "ann", minute), people=[BO, ANN.leaving_at(minute), CY])
        self.changes(("leaves", "cy", 5), people=[BO, ANN, CY.leaving_at(5)])

    def test_n(self):
        self.changes(("n", ("ann", 0), 600), people=[BO, ANN.with_errand(0, ("counter", "bank", 600)), CY])
        self.changes(("n", ("ann", 3), 0), people=[BO, ANN.with_errand(3, ("room", "bath", 0)), CY])
        self.changes(("n", ("ann", 4), 8), people=[BO, ANN.with_errand(4, ("stay", "mill", 8)), CY])

    def test_meetings(self):
        self.changes(("opens", "talk", 9999), meetings=[Meeting("talk", "hall", 9999, 30, 2)])
        self.changes(("length", "talk", 600), meetings=[Meeting("talk", "hall", 20, 600, 2)])
        self.changes(("quorum", "talk", 1), meetings=[Meeting("talk", "hall", 20, 30, 1)])

    def test_counters(self):
        order = BANK.order
        self.changes(("desks", "bank", 3), counters=[TILL, Counter("bank", "hall", 3, Hours([(0, 50)]), order)])
        self.changes(("hours", "bank", Hours()), counters=[TILL, Counter("bank", "hall", 2, None, order)])
        self.changes(("hours", "till", Hours([])), counters=[Counter("till", "hall", 1, Hours([])), BANK])
        turned = Counter("bank", "hall", 2, Hours([(0, 50)]), order[::-1])
        self.changes(("order", "bank", list(order[::-1])), counters=[TILL, turned])
        self.changes(("order", "bank", order[::-1]), counters=[TILL, turned])

    def test_rooms(self):
        notices = {("ann", 3): 1, ("bo", 1): 2}
        self.changes(("turn", "bath", 600), rooms=[LOFT, Room("bath", "mill", 600, BATH.order, notices)])
        self.changes(("turn", "loft", 1), rooms=[Room("loft", "inn", 1), BATH])
        turned = Room("bath", "mill", 4, BATH.order[::-1], notices)
        self.changes(("order", "bath", BATH.order[::-1]), rooms=[LOFT, turned])
        for notice in (0, 600):
            told_anew = {("ann", 3): notice, ("bo", 1): 2}
            self.changes(("notice", ("ann", 3), notice), rooms=[LOFT, Room("bath", "mill", 4, BATH.order, told_anew)])
        fewer = self.changes(("notice", ("bo", 1), None), rooms=[LOFT, Room("bath", "mill", 4, BATH.order, {("ann", 3): 1})])
        self.assertTrue(changed_by(fewer, ("notice", ("bo", 1), 2)) == told())
        self.assertTrue(changed_by(fewer, ("notice", ("bo", 1), None)) == fewer)

    def test_ways(self):
        self.changes(("way", ("inn", "hall"), steady(9)), ways=WAYS.with_way(("inn", "hall"), steady(9)))
        self.changes(("way", ("inn", "mill"), stay()), ways=WAYS.with_way(("inn", "mill"), stay()))
        found = self.changes(("way", ("yard", "inn"), None), ways=WAYS.with_way(("yard", "inn"), None))
        self.assertEqual(found.all_places(), ["hall", "inn", "mill"])
        self.changes(("way", ("inn", "mill"), None))
        self.changes(("way", ("far", "away"), None))

    def test_struck(self):
        found = self.changes(("struck", ("ann", 0)), people=[BO, ANN.with_errand(0, None), CY],
                             counters=[TILL, Counter("bank", "hall", 2, Hours([(0, 50)]), [("bo", 2)])])
        self.assertEqual((found.key_ahead(("ann", 2)), found.leg_of(("ann", 2))), (None, steady(5)))
        self.changes(("struck", ("bo", 1)), people=[BO.with_errand(1, None), ANN, CY],
                     rooms=[LOFT, Room("bath", "mill", 4, [("ann", 3)], {("ann", 3): 1})])
        self.changes(("struck", ("ann", 4)), people=[BO, ANN.with_errand(4, None), CY])
        one = changed_by(told(), ("quorum", "talk", 1))
        self.assertEqual(changed_by(one, ("struck", ("bo", 3))).at_same(("ann", 2)), [("ann", 2)])

    def test_what_was_told_already(self):
        for setting in [("leaves", "ann", 0), ("n", ("bo", 2), 4), ("opens", "talk", 20), ("length", "talk", 30),
                        ("quorum", "talk", 2), ("desks", "bank", 2), ("hours", "bank", Hours([(0, 50)])),
                        ("hours", "till", Hours()), ("turn", "bath", 4), ("notice", ("ann", 3), 1),
                        ("notice", ("bo", 1), 2), ("order", "bank", BANK.order), ("order", "till", []),
                        ("order", "bath", list(BATH.order)), ("way", ("hall", "inn"), steady(6)),
                        ("way", ("mill", "inn"), None)]:
            self.changes(setting)

    def test_by_name_and_one_behind_the_other(self):
        day = changed_by(day=told(), setting=("leaves", "ann", 7))
        self.assertTrue(changed_by(day, ("leaves", "ann", 0)) == told())

    def test_orders_handed_in_and_changed_later(self):
        order = [("ann", 0), ("bo", 2)]
        day = changed_by(told(), ("order", "bank", order))
        order.clear()
        self.assertEqual(day.the_counter("bank").order, (("ann", 0), ("bo", 2)))

    def test_days_by_chance(self):
        for day in some_days(15):
            for person in day.persons():
                found = changed_by(day, ("leaves", person.name, person.leaves + 1))
                self.assertEqual(found.the_person(person.name), person.leaving_at(person.leaves + 1))
                self.assertEqual(found.all_keys(), day.all_keys())


class Refused(Promises):
    def refuses_setting(self, error, stored, setting):
        self.refuses(error, stored, changed_by, told(), setting)

    def test_no_day_ahead_of_all_else(self):
        self.refuses_part("day", [*ODD, None, 5, [], {}, ANN, Day], lambda day: changed_by(day, 5))

    def test_wrong_forms(self):
        wrong = [*ODD, None, 5, [], (), {}, ("leaves",), ("leaves", "ann"), ("leaves", "ann", 5, 5), ["leaves", "ann", 5],
                 ("struck",), ("struck", ("ann", 0), None), ("Leaves", "ann", 5), ("", "ann", 5), (None, "ann", 5),
                 (5, "ann", 5), (["leaves"], "ann", 5), ("exchange", "bank", 0), ("end", ("ann", 0), 5),
                 ("leg", ("ann", 0), 5), ("home", "ann", "inn"), "leaves", ("n", ("ann", 0)), ("way", ("inn", "hall"))]
        for setting in wrong:
            self.refuses_setting(BadPart, "setting", setting)

    def test_names_of_what_is_not_there(self):
        for word, others in (("leaves", ["bank", "talk"]), ("opens", ["ann", "bank"]), ("length", ["bath"]),
                             ("quorum", ["till"]), ("desks", ["talk", "bath", "ann"]), ("hours", ["bath", "talk"]),
                             ("turn", ["bank", "talk", "ann"]), ("order", ["talk", "ann", "inn"])):
            for name in [*others, "zoe", *NO_NAMES, ["bank"], ("bank",)]:
                self.refuses_setting(BadName, name, (word, name, -1))

    def test_keys_of_what_is_not_there(self):
        for key in [*NO_ERRAND_KEYS, ["ann", 0]]:
            self.refuses_setting(BadKey, key, ("n", key, -1))
            self.refuses_setting(BadKey, key, ("notice", key, -1))
            self.refuses_setting(BadKey, key, ("struck", key))
        for key in (("ann", 2), ("bo", 3)):
            self.refuses_setting(BadKey, key, ("n", key, 5))
        for key in (("ann", 0), ("ann", 2), ("ann", 4)):
            self.refuses_setting(BadKey, key, ("notice", key, 5))
            self.refuses_setting(BadKey, key, ("notice", key, None))

    def test_pairs_and_hours(self):
        for pair in [*ODD, None, 5, (), ("inn",), ("inn", "inn"), ("inn", "hall", "mill"), ["inn", "hall"], ("Inn", "hall"),
                     (["inn"], "hall"), ("inn", None)]:
            self.refuses_setting(BadPart, "pair", ("way", pair, 5))
            self.refuses_setting(BadPart, "pair", ("way", pair, None))
        for hours in [*ODD, None, 5, [], [(0, 5)], (), {}, Hours]:
            self.refuses_setting(BadPart, "hours", ("hours", "bank", hours))

    def test_what_the_parts_raise(self):
        for value in NO_TOLD_MINUTES:
            self.refuses_setting(BadNumber, value, ("leaves", "ann", value))
            self.refuses_setting(BadNumber, value, ("opens", "talk", value))
        for value in NO_LENGTHS:
            self.refuses_setting(BadErrand, 3, ("n", ("ann", 3), value))
            self.refuses_setting(BadErrand, 2, ("n", ("bo", 2), value))
            self.refuses_setting(BadNumber, value, ("length", "talk", value))
            self.refuses_setting(BadNumber, value, ("turn", "bath", value))
            if value is not None:
                self.refuses_setting(BadPart, "notices", ("notice", ("bo", 1), value))
        for value in [*NO_COUNTS, 0, 7]:
            self.refuses_setting(BadNumber, value, ("quorum", "talk", value))
        for value in [*NO_COUNTS, 0, 4]:
            self.refuses_setting(BadNumber, value, ("desks", "bank", value))
        for value in [*ODD, 5, {}, [5], [("ann", 0), ("ann", 0)], [["ann", 0]], None]:
            self.refuses_setting(BadPart, "order", ("order", "bank", value))
            self.refuses_setting(BadPart, "order", ("order", "bath", value))
        for value in [*ODD, 5, [], {}, ((0, 0, True),)]:
            self.refuses_setting(BadPart, "map", ("way", ("inn", "hall"), value))

    def test_what_the_changed_day_raises(self):
        self.refuses_setting(BadPart, "quorum", ("quorum", "talk", 3))
        self.refuses_setting(BadPart, "quorum", ("struck", ("ann", 2)))
        self.refuses_setting(BadOrder, "bank", ("order", "bank", [("ann", 0)]))
        self.refuses_setting(BadOrder, "bank", ("order", "bank", []))
        self.refuses_setting(BadOrder, "till", ("order", "till", [("ann", 0)]))
        self.refuses_setting(BadOrder, "bath", ("order", "bath", [("ann", 3), ("bo", 1), ("bo", 2)]))
        self.refuses_setting(BadPart, "notices", ("order", "bath", [("ann", 3)]))
        self.refuses_setting(NoWay, ("inn", "hall"), ("way", ("inn", "hall"), None))
        self.refuses_setting(NoWay, ("hall", "mill"), ("way", ("hall", "mill"), None))
        six = Ways({("a", "b"): stay(), ("c", "d"): stay(), ("e", "f"): stay()})
        self.refuses(BadPart, "places", changed_by, Day(ways=six), ("way", ("a", "g"), stay()))
        ann = Person("ann", "inn", 0, [("stay", "hall", 0), ("stay", "mill", 0)])
        day = Day([ann], Ways({("inn", "hall"): stay(), ("hall", "mill"): stay()}))
        self.refuses(NoWay, ("inn", "mill"), changed_by, day, ("struck", ("ann", 0)))


if __name__ == "__main__":
    unittest.main()
