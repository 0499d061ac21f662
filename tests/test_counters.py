"""[2], [4], [5], [7], [19]: counters, meetings and rooms."""
import sys
import unittest
from pathlib import Path

sys.path.insert(0, str(Path(__file__).parent))

from checks import NO_COUNTS, NO_LISTS, NO_NAMES, ODD, Promises
from risingday.counters import Counter, is_key, is_order
from risingday.errors import BadName, BadNumber, BadPart
from risingday.hours import Hours
from risingday.meetings import Meeting
from risingday.rooms import Room

NO_KEYS = [*ODD, None, 5, {}, [], (), ("ann",), ("ann", 0, 0), ("ann", 5), ("ann", -1), ("ann", True), ("ann", False),
           ("ann", None), ("ann", "0"), ("ann", (0,)), ["ann", 0], (0, "ann"), ("Ann", 0), ("", 0),
           ("abcdefghi", 0), (None, 0), (5, 0), (("ann",), 0), (["ann"], 0), ("ann", [0]), ("ann", 0, "arrives"), "an"]
ORDER = [("bo", 3), ("ann", 0), ("ann", 4), ("bo", 1)]
NO_ORDERS = [*NO_LISTS, "", [5], [None], [("ann", 0), ("ann", 0)], (("ann", 0), ("bo", 1), ("ann", 0)),
             [["ann", 0]], [("ann", 0), None], ("ann", 0), *[[("bo", 0), key] for key in NO_KEYS]]
NO_LENGTHS = [*NO_COUNTS, 601]


class Keys(Promises):
    def test_is_key(self):
        for value in [("ann", 0), ("z", 4), ("abcdefgh", 2)]:
            self.assertIs(is_key(value), True)
        for value in NO_KEYS:
            self.assertIs(is_key(value), False, value)
        self.assertIs(is_key(value=("ann", 1)), True)

    def test_is_order(self):
        for value in ([], (), ORDER, tuple(ORDER), [("ann", 0)], [("ann", 0), ("ann", 1), ("anna", 0)]):
            self.assertIs(is_order(value), True)
        for value in NO_ORDERS:
            self.assertIs(is_order(value), False, value)
        self.assertIs(is_order(value=ORDER), True)


class Counters(Promises):
    def test_keeps_what_was_told(self):
        hours = Hours([(0, 5)])
        bank = Counter("bank", "hall", 3, hours, ORDER)
        self.assertEqual((bank.name, bank.place, bank.desks, bank.hours, bank.order),
                         ("bank", "hall", 3, hours, tuple(ORDER)))
        self.assertIs(bank.order.__class__, tuple)
        named = Counter(name="bank", place="hall", desks=2, hours=None, order=tuple(ORDER))
        self.assertEqual((named.desks, named.hours, named.order), (2, Hours(), tuple(ORDER)))

    def test_what_may_be_left_out(self):
        bank = Counter("bank", "hall")
        self.assertEqual((bank.desks, bank.hours, bank.order), (1, Hours(), ()))
        self.assertIsInstance(bank.hours, Hours)

    def test_each_wrong_argument_and_the_first_one_of_several(self):
        self.refuses_each(BadName, NO_NAMES, lambda name: Counter(name, "", 0, 5, 5))
        self.refuses_part("place", NO_NAMES, lambda place: Counter("bank", place, 0, 5, 5))
        self.refuses_each(BadNumber, [*NO_COUNTS, 0, 4], lambda desks: Counter("bank", "hall", desks, 5, 5))
        wrong = [*ODD, 5, [], [(0, 5)], ((0, 5),), {}, Hours]
        self.refuses_part("hours", wrong, lambda hours: Counter("bank", "hall", 1, hours, 5))
        self.refuses_part("order", NO_ORDERS, lambda order: Counter("bank", "hall", 1, None, order))
        self.refuses_each(BadNumber, [0, 4], lambda desks: Counter("bank", "hall", desks))
        self.refuses_part("order", [[("ann", 0), ("ann", 0)]], lambda order: Counter("bank", "hall", order=order))

    def test_lists_handed_in_and_changed_later(self):
        order = list(ORDER)
        bank = Counter("bank", "hall", order=order)
        order.pop()
        self.assertEqual(bank.order, tuple(ORDER))
        self.cannot_be_iterated(bank)

    def test_equal_just_with_the_same(self):
        bank = Counter("bank", "hall", 2, Hours([(0, 5)]), ORDER)
        self.assertTrue(bank == Counter("bank", "hall", 2, Hours([(0, 5)]), tuple(ORDER)))
        self.assertTrue(Counter("bank", "hall") == Counter("bank", "hall", 1, Hours(), []))
        for other in (Counter("till", "hall", 2, Hours([(0, 5)]), ORDER),
                      Counter("bank", "inn", 2, Hours([(0, 5)]), ORDER),
                      Counter("bank", "hall", 1, Hours([(0, 5)]), ORDER),
                      Counter("bank", "hall", 2, Hours([(0, 6)]), ORDER), Counter("bank", "hall", 2, None, ORDER),
                      Counter("bank", "hall", 2, Hours([(0, 5)]), ORDER[:3]),
                      Counter("bank", "hall", 2, Hours([(0, 5)]), ORDER[::-1])):
            self.assertFalse(bank == other)
            self.assertTrue(bank != other)
        for value in [*ODD, None, "bank", ("bank", "hall"), Meeting("bank", "hall", 0, 0), Room("bank", "hall")]:
            self.assertIs(bank == value, False)
            self.assertIs(Counter("bank", "hall") == value, False)


class Meetings(Promises):
    def test_keeps_what_was_told(self):
        talk = Meeting("talk", "hall", 9999, 600, 6)
        self.assertEqual((talk.name, talk.place, talk.opens, talk.length, talk.quorum),
                         ("talk", "hall", 9999, 600, 6))
        named = Meeting(name="talk", place="hall", opens=0, length=0, quorum=1)
        self.assertEqual((named.opens, named.length, named.quorum), (0, 0, 1))
        self.assertEqual(Meeting("talk", "hall", 7, 8).quorum, 1)
        self.cannot_be_iterated(talk)

    def test_each_wrong_argument_and_the_first_one_of_several(self):
        self.refuses_each(BadName, NO_NAMES, lambda name: Meeting(name, "", -1, -2, -3))
        self.refuses_part("place", NO_NAMES, lambda place: Meeting("talk", place, -1, -2, -3))
        self.refuses_each(BadNumber, [*NO_COUNTS, 10000], lambda opens: Meeting("talk", "hall", opens, -2, -3))
        self.refuses_each(BadNumber, NO_LENGTHS, lambda length: Meeting("talk", "hall", 0, length, -3))
        self.refuses_each(BadNumber, [*NO_COUNTS, 0, 7], lambda quorum: Meeting("talk", "hall", 0, 0, quorum))

    def test_equal_just_with_the_same(self):
        talk = Meeting("talk", "hall", 5, 6, 2)
        self.assertTrue(talk == Meeting("talk", "hall", 5, 6, 2))
        for other in (Meeting("chat", "hall", 5, 6, 2), Meeting("talk", "inn", 5, 6, 2),
                      Meeting("talk", "hall", 4, 6, 2), Meeting("talk", "hall", 5, 7, 2),
                      Meeting("talk", "hall", 5, 6, 1), Meeting("talk", "hall", 6, 5, 2)):
            self.assertFalse(talk == other)
            self.assertTrue(talk != other)
        for value in [*ODD, None, "talk", ("talk", "hall", 5, 6, 2), Counter("talk", "hall"), Meeting]:
            self.assertIs(talk == value, False)


class Rooms(Promises):
    def test_keeps_what_was_told(self):
        bath = Room("bath", "hall", 600, ORDER, {("bo", 1): 600, ("bo", 3): 0})
        self.assertEqual((bath.name, bath.place, bath.turn, bath.order), ("bath", "hall", 600, tuple(ORDER)))
        self.assertIs(bath.order.__class__, tuple)
        self.assertEqual(list(bath.noticed().items()), [(("bo", 3), 0), (("bo", 1), 600)])
        named = Room(name="bath", place="hall", turn=0, order=tuple(ORDER), notices=None)
        self.assertEqual((named.turn, named.order, named.noticed()), (0, tuple(ORDER), {}))

    def test_what_may_be_left_out(self):
        bath = Room("bath", "hall")
        self.assertEqual((bath.turn, bath.order, bath.noticed()), (0, (), {}))
        self.assertEqual(Room("bath", "hall", notices={}), bath)

    def test_notices_in_the_order(self):
        notices = {key: 5 for key in sorted(ORDER)}
        self.assertEqual(list(Room("bath", "hall", 0, ORDER, notices).noticed()), ORDER)
        self.assertEqual(list(Room("bath", "hall", 0, ORDER[::-1], notices).noticed()), ORDER[::-1])

    def test_each_wrong_argument_and_the_first_one_of_several(self):
        self.refuses_each(BadName, NO_NAMES, lambda name: Room(name, "", -1, 5, 5))
        self.refuses_part("place", NO_NAMES, lambda place: Room("bath", place, -1, 5, 5))
        self.refuses_each(BadNumber, NO_LENGTHS, lambda turn: Room("bath", "hall", turn, 5, 5))
        self.refuses_part("order", NO_ORDERS, lambda order: Room("bath", "hall", 0, order, 5))
        wrong = [*ODD, 5, [], (), [(("ann", 0), 5)], ORDER]
        self.refuses_part("notices", wrong, lambda notices: Room("bath", "hall", 0, ORDER, notices))

    def test_wrong_notices(self):
        for key in [("ann", 1), ("cy", 0), ("ann", 5), ("ann",), None, 5, "ann", (), True]:
            self.refuses(BadPart, "notices", Room, "bath", "hall", 0, ORDER, {key: 5})
            self.refuses(BadPart, "notices", Room, "bath", "hall", 0, ORDER, {("ann", 0): 5, key: 5})
        for notice in [*NO_LENGTHS, None]:
            self.refuses(BadPart, "notices", Room, "bath", "hall", 0, ORDER, {("ann", 0): notice})
            self.refuses(BadPart, "notices", Room, "bath", "hall", 0, ORDER, {("bo", 3): 5, ("ann", 0): notice})
        self.refuses(BadPart, "notices", Room, "bath", "hall", notices={("ann", 0): 5})

    def test_what_is_handed_in_or_out_and_changed_later(self):
        order, notices = list(ORDER), {("ann", 0): 5}
        bath = Room("bath", "hall", 0, order, notices)
        order.clear()
        notices[("ann", 0)] = 6
        notices[("bo", 1)] = 6
        bath.noticed().clear()
        self.assertEqual((bath.order, bath.noticed()), (tuple(ORDER), {("ann", 0): 5}))
        self.cannot_be_iterated(bath)

    def test_equal_just_with_the_same(self):
        notices = {("ann", 0): 5, ("bo", 1): 6}
        bath = Room("bath", "hall", 2, ORDER, notices)
        self.assertTrue(bath == Room("bath", "hall", 2, tuple(ORDER), {("bo", 1): 6, ("ann", 0): 5}))
        for other in (Room("spa", "hall", 2, ORDER, notices), Room("bath", "inn", 2, ORDER, notices),
                      Room("bath", "hall", 3, ORDER, notices), Room("bath", "hall", 2, ORDER[::-1], notices),
                      Room("bath", "hall", 2, ORDER), Room("bath", "hall", 2, ORDER, {("ann", 0): 5}),
                      Room("bath", "hall", 2, ORDER, {("ann", 0): 5, ("bo", 1): 7})):
            self.assertFalse(bath == other)
            self.assertTrue(bath != other)
        for value in [*ODD, None, "bath", ("bath", "hall"), Counter("bath", "hall"), Room]:
            self.assertIs(bath == value, False)
            self.assertIs(Room("bath", "hall") == value, False)


if __name__ == "__main__":
    unittest.main()
