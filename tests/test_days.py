"""[6], [7], [17] to [20]: days as they are told, and days that are refused."""
import sys
import unittest
from pathlib import Path

sys.path.insert(0, str(Path(__file__).parent))

from byhand import ByHand, some_day
from checks import NO_LISTS, NO_NAMES, ODD, Promises
from risingday.counters import Counter
from risingday.days import Day
from risingday.errors import BadKey, BadName, BadOrder, BadPart, NoWay
from risingday.hours import Hours
from risingday.meetings import Meeting
from risingday.people import Person
from risingday.places import Ways
from risingday.rising import stay, steady
from risingday.rooms import Room

ANN = Person("ann", "inn", 0, [("counter", "bank", 10), None, ("meet", "talk"), ("room", "bath", 7), ("stay", "mill", 3)])
BO = Person("bo", "hall", 9, [None, ("room", "bath", 5), ("counter", "bank", 4), ("meet", "talk")])
CY = Person("cy", "inn", 3)
WAYS = Ways({("inn", "hall"): steady(5), ("hall", "inn"): steady(6), ("hall", "mill"): steady(7),
             ("mill", "hall"): steady(8), ("yard", "inn"): stay()})
BANK = Counter("bank", "hall", 2, Hours([(0, 50)]), [("bo", 2), ("ann", 0)])
TILL = Counter("till", "hall")
TALK = Meeting("talk", "hall", 20, 30, 2)
BATH = Room("bath", "mill", 4, [("ann", 3), ("bo", 1)], {("bo", 1): 2, ("ann", 3): 1})
LOFT = Room("loft", "inn")

NO_ERRAND_KEYS = [*ODD, None, 5, (), ("ann",), "ann", ("ann", 1), ("ann", 5), ("ann", 4, "ends"), ("ann", True),
                  ("ann", False), ("bo", True), ("ann", -1), ("bo", False), ("bo", 0), ("bo", 4), ("cy", 0), ("di", 0), ["ann", 0], (["ann"], 0),
                  ("ann", [0]), ("ann", None), (0, "ann"), ("Ann", 0), ("ann", "0"), {}]


def told():
    return Day([BO, ANN, CY], WAYS, [TILL, BANK], [TALK], [LOFT, BATH])


class AsTold(Promises):
    def test_all_that_is_told_comes_back(self):
        day = told()
        self.assertEqual((day.persons(), day.all_ways(), day.all_counters(), day.all_meetings(), day.all_rooms()),
                         ([BO, ANN, CY], WAYS, [TILL, BANK], [TALK], [LOFT, BATH]))
        for found in (day.persons(), day.all_counters(), day.all_meetings(), day.all_rooms(), day.all_places(),
                      day.all_keys(), day.at_same(("ann", 0)), day.at_same(("ann", 2)), day.at_same(("ann", 4))):
            self.assertIs(found.__class__, list)

    def test_by_name_and_tuples(self):
        named = Day(people=(BO, ANN, CY), ways=WAYS, counters=(TILL, BANK), meetings=(TALK,), rooms=(LOFT, BATH))
        self.assertTrue(named == told())
        self.assertEqual(named.persons(), [BO, ANN, CY])
        self.assertEqual(Day([CY], None).all_ways(), Ways())

    def test_places_ascending(self):
        self.assertEqual(told().all_places(), ["hall", "inn", "mill", "yard"])
        self.assertEqual(Day([Person("a", "z", 0), Person("b", "a", 0)]).all_places(), ["a", "z"])
        self.assertEqual(Day(ways=Ways({("c", "b"): stay()})).all_places(), ["b", "c"])
        self.assertEqual(Day([Person("a", "z", 0, [("stay", "z", 0)])]).all_places(), ["z"])
        self.assertEqual(Day([], None, [Counter("a", "y")], [], [Room("b", "x")]).all_places(), ["x", "y"])
        one = Day([Person("a", "z", 0, [("meet", "m")])], Ways({("z", "w"): stay()}), [], [Meeting("m", "w", 0, 0)])
        self.assertEqual(one.all_places(), ["w", "z"])
        six = Ways({("a", "b"): stay(), ("c", "d"): stay(), ("e", "f"): stay()})
        self.assertEqual(len(Day(ways=six).all_places()), 6)

    def test_an_empty_day(self):
        for day in (Day(), Day([], None, [], [], []), Day((), Ways(), (), (), ())):
            self.assertEqual((day.persons(), day.all_counters(), day.all_meetings(), day.all_rooms(),
                              day.all_places(), day.all_keys()), ([], [], [], [], [], []))
            self.assertEqual(day.all_ways(), Ways())
            self.assertTrue(day == Day())
        self.refuses(BadName, "ann", Day().the_person, "ann")
        self.refuses(BadKey, ("ann", 0), Day().the_errand, ("ann", 0))

    def test_by_names(self):
        day = told()
        self.assertEqual((day.the_person("ann"), day.the_counter("bank"), day.the_meeting("talk"), day.the_room("bath")),
                         (ANN, BANK, TALK, BATH))
        self.assertEqual((day.the_person(name="cy"), day.the_counter(name="till"), day.the_room(name="loft")),
                         (CY, TILL, LOFT))
        for call, others in ((day.the_person, ["bank", "talk", "bath", "inn"]), (day.the_counter, ["talk", "bath", "ann"]),
                             (day.the_meeting, ["bank", "bath", "ann"]), (day.the_room, ["bank", "talk", "ann"])):
            self.refuses_each(BadName, [*others, "zoe", *NO_NAMES, *ODD, ("ann",), ["ann"]], call)

    def test_each_errand(self):
        day = told()
        self.assertEqual(day.all_keys(), [("bo", 1), ("bo", 2), ("bo", 3), ("ann", 0), ("ann", 2), ("ann", 3), ("ann", 4)])
        rows = {
            ("bo", 1): ("mill", None, "hall", steady(7)), ("bo", 2): ("hall", ("bo", 1), "mill", steady(8)),
            ("bo", 3): ("hall", ("bo", 2), "hall", stay()), ("ann", 0): ("hall", None, "inn", steady(5)),
            ("ann", 2): ("hall", ("ann", 0), "hall", stay()), ("ann", 3): ("mill", ("ann", 2), "hall", steady(7)),
            ("ann", 4): ("mill", ("ann", 3), "mill", stay()),
        }
        for key, row in rows.items():
            self.assertEqual((day.place_of(key), day.key_ahead(key), day.place_ahead(key), day.leg_of(key)), row)
        self.assertEqual((day.the_errand(("bo", 1)), day.the_errand(key=("ann", 2))), (("room", "bath", 5), ("meet", "talk")))
        same = {key: day.at_same(key) for key in day.all_keys()}
        bank, bath, talk = [("bo", 2), ("ann", 0)], [("ann", 3), ("bo", 1)], [("bo", 3), ("ann", 2)]
        self.assertEqual(same, {("bo", 1): bath, ("bo", 2): bank, ("bo", 3): talk, ("ann", 0): bank, ("ann", 2): talk,
                                ("ann", 3): bath, ("ann", 4): []})
        behind = {key: day.next_behind(key) for key in day.all_keys()}
        self.assertEqual(behind, {("bo", 1): None, ("bo", 2): ("ann", 0), ("bo", 3): None, ("ann", 0): None,
                                  ("ann", 2): None, ("ann", 3): ("bo", 1), ("ann", 4): None})
        self.assertEqual([day.notice_of(key) for key in day.all_keys()], [2, None, None, None, None, 1, None])
        self.assertEqual([day.is_early(key) for key in day.all_keys()],
                         [False, False, False, False, False, True, False])
        for key in day.all_keys():
            self.assertIsInstance(day.is_early(key), bool)

    def test_a_notice_of_nought_is_one(self):
        bath = Room("bath", "inn", 0, [("a", 0), ("a", 1)], {("a", 0): 0})
        day = Day([Person("a", "inn", 0, [("room", "bath", 5), ("room", "bath", 5)])], None, [], [], [bath])
        self.assertEqual((day.notice_of(("a", 0)), day.is_early(("a", 0)), day.is_early(("a", 1))), (0, True, False))

    def test_a_place_may_have_the_name_of_a_counter(self):
        ann = Person("ann", "bank", 0, [("stay", "bank", 5), ("counter", "bank", 6), ("stay", "talk", 1), ("meet", "talk")])
        ways = Ways({("bank", "talk"): stay(), ("talk", "bank"): stay()})
        day = Day([ann], ways, [Counter("bank", "bank", order=[("ann", 1)])], [Meeting("talk", "bank", 0, 0)])
        self.assertEqual((day.at_same(("ann", 0)), day.at_same(("ann", 1)), day.at_same(("ann", 3))),
                         ([], [("ann", 1)], [("ann", 3)]))

    def test_behind_struck_errands(self):
        errands = [None, ("stay", "hall", 1), None, None, ("stay", "mill", 1)]
        day = Day([Person("ann", "inn", 0, errands)], Ways({("inn", "hall"): steady(1), ("hall", "mill"): steady(2)}))
        self.assertEqual((day.key_ahead(("ann", 1)), day.place_ahead(("ann", 1))), (None, "inn"))
        self.assertEqual((day.key_ahead(("ann", 4)), day.place_ahead(("ann", 4))), (("ann", 1), "hall"))
        self.assertEqual(day.leg_of(("ann", 4)), steady(2))
        self.assertEqual(day.all_keys(), [("ann", 1), ("ann", 4)])

    def test_other_keys_are_refused(self):
        day = told()
        for call in (day.the_errand, day.place_of, day.key_ahead, day.place_ahead, day.leg_of, day.at_same,
                     day.next_behind, day.notice_of, day.is_early):
            self.refuses_each(BadKey, NO_ERRAND_KEYS, call)
            call(key=("ann", 0))

    def test_days_by_chance_against_what_was_told(self):
        for seed in range(60):
            day = some_day(seed, 4, 4, wild=True)
            hand = ByHand(day)
            self.assertEqual(day.all_keys(), hand.keys)
            for key in hand.keys:
                self.assertEqual((day.place_of(key), day.key_ahead(key), day.leg_of(key), day.the_errand(key)),
                                 (hand.place(key), hand.ahead(key), hand.leg(key), hand.errand(key)))
                self.assertEqual(day.is_early(key), hand.behind(key) is not None)

    def test_equal(self):
        day = told()
        self.assertTrue(day == told())
        for other in (Day([ANN, BO, CY], WAYS, [TILL, BANK], [TALK], [LOFT, BATH]),
                      Day([BO, ANN], WAYS, [TILL, BANK], [TALK], [LOFT, BATH]),
                      Day([BO, ANN, CY], WAYS.with_way(("yard", "inn"), steady(1)), [TILL, BANK], [TALK], [LOFT, BATH]),
                      Day([BO, ANN, CY], WAYS, [BANK], [TALK], [LOFT, BATH]),
                      Day([BO, ANN, CY], WAYS, [TILL, BANK], [Meeting("talk", "hall", 21, 30, 2)], [LOFT, BATH]),
                      Day([BO, ANN, CY], WAYS, [TILL, BANK], [TALK], [BATH]), Day()):
            self.assertFalse(day == other)
            self.assertTrue(day != other)
        for value in [*ODD, None, 5, [], {}, ANN, WAYS, Day]:
            self.assertIs(day == value, False)
            self.assertIs(Day() == value, False)

    def test_what_is_handed_in_or_out_and_changed_later(self):
        parts = [[BO, ANN, CY], [TILL, BANK], [TALK], [LOFT, BATH]]
        day = Day(parts[0], WAYS, *parts[1:])
        for part in parts:
            part.clear()
        for found in (day.persons(), day.all_counters(), day.all_meetings(), day.all_rooms(), day.all_places(),
                      day.all_keys(), day.at_same(("bo", 2)), day.at_same(("bo", 3)), day.at_same(("bo", 1))):
            self.assertTrue(found)
            found.clear()
        self.assertTrue(day == told())
        self.assertEqual((day.all_places(), day.at_same(("bo", 2)), len(day.all_keys())),
                         (["hall", "inn", "mill", "yard"], [("bo", 2), ("ann", 0)], 7))
        self.cannot_be_iterated(day)


class Refused(Promises):
    def test_people(self):
        wrong = [*NO_LISTS, [ANN, None], [None], ["ann"], (ANN, 5), [Person], [CY] * 7,
                 [Person(name, "inn", 0) for name in "abcdefg"], BO, {"ann": ANN}]
        self.refuses_part("people", wrong, lambda people: Day(people, 5, 5, 5, 5))
        self.refuses_part("people", wrong, Day)

    def test_names_of_people(self):
        self.refuses(BadName, "cy", Day, [CY, Person("a", "inn", 0), Person("cy", "hall", 7)], 5, 5, 5, 5)
        self.refuses(BadName, "a", Day, (Person("b", "inn", 0), CY, Person("a", "x", 0), Person("a", "y", 0), CY))

    def test_ways(self):
        self.refuses_part("ways", [*ODD, 5, {}, [], {("inn", "hall"): steady(5)}, Ways, steady(1)],
                          lambda ways: Day([CY], ways, 5, 5, 5))

    def test_counters_meetings_and_rooms(self):
        no_counters = [*NO_LISTS, [None], [BANK, TALK], [Room("a", "b")], "bank", BANK, [Counter]]
        many = [Counter(name, "inn") for name in "abcdefg"]
        self.refuses_part("counters", [*no_counters, many], lambda counters: Day([CY], WAYS, counters, 5, 5))
        no_meetings = [*NO_LISTS, [None], [TALK, BANK], TALK, [Meeting], [Meeting(name, "inn", 0, 0) for name in "abcdefg"]]
        self.refuses_part("meetings", no_meetings, lambda meetings: Day([CY], WAYS, [], meetings, 5))
        no_rooms = [*NO_LISTS, [None], [BATH, BANK], [TALK], BATH, [Room], [Room(name, "inn") for name in "abcdefg"]]
        self.refuses_part("rooms", no_rooms, lambda rooms: Day([CY], WAYS, [TILL], [], rooms))

    def test_names_of_counters_meetings_and_rooms(self):
        till, loft, talk = Counter("x", "inn"), Room("x", "inn"), Meeting("x", "inn", 0, 0)
        other = Counter("y", "inn")
        self.refuses(BadName, "x", Day, [], None, [till, other, till])
        self.refuses(BadName, "x", Day, [], None, [till], [talk], [])
        self.refuses(BadName, "x", Day, [], None, [till], [], [loft])
        self.refuses(BadName, "x", Day, [], None, [], [talk], [loft])
        self.refuses(BadName, "x", Day, [], None, [], [], [loft, loft])
        self.refuses(BadName, "x", Day, [], None, [], [talk, talk])
        self.refuses(BadName, "y", Day, [], None, [other, till, other], [talk], [loft])
        self.refuses(BadName, "x", Day, [], None, [other, till], [talk], [Room("y", "inn")])
        # Of a name of a person nothing is said.
        self.assertEqual(len(Day([Person("x", "inn", 0)], None, [till]).all_counters()), 1)

    def test_names_are_looked_at_ahead_of_all_else(self):
        places = [Counter("x", "a"), Counter("x", "b"), Counter("c", "c"), Counter("d", "d"), Counter("e", "e"),
                  Counter("f", "f")]
        person = Person("ann", "g", 0, [("counter", "y", 0)])
        self.refuses(BadName, "x", Day, [person], None, places)
        self.refuses(BadPart, "rooms", Day, [person], None, places, [], [None])

    def test_more_than_six_places(self):
        six = [Counter(name, name) for name in "abcdef"]
        self.assertEqual(len(Day([Person("ann", "a", 0)], None, six).all_places()), 6)
        errand = Person("ann", "a", 0, [("counter", "z", 0)])
        self.refuses(BadPart, "places", Day, [Person("ann", "g", 0, errand.errands)], None, six)
        self.refuses(BadPart, "places", Day, [Person("ann", "a", 0, [("stay", "g", 0)])], None, six)
        self.refuses(BadPart, "places", Day, [errand], Ways({("a", "g"): stay()}), six)
        self.refuses(BadPart, "places", Day, [errand], None, six, [Meeting("m", "g", 0, 0)])
        self.refuses(BadPart, "places", Day, [errand], None, six, [], [Room("r", "g", 0, [("ann", 0)])])
        self.assertEqual(len(Day([Person("ann", "a", 0, [None])], None, six).all_places()), 6)

    def test_errands_at_what_is_not_there(self):
        late = Person("bo", "inn", 0, [("stay", "far", 0), ("room", "none", 0)])
        for errand in (("counter", "zoo", 0), ("meet", "zoo"), ("room", "zoo", 0), ("counter", "loft", 0),
                       ("counter", "talk", 0), ("meet", "bank"), ("meet", "loft"), ("room", "bank", 0), ("room", "talk", 0)):
            person = Person("ann", "inn", 0, [("stay", "inn", 0), None, errand, ("meet", "other")])
            talk = Meeting("talk", "inn", 0, 0, 6)
            bank, loft = Counter("bank", "inn", order=[("zoe", 0)]), Room("loft", "inn", 0, [("zoe", 0)])
            self.refuses(BadKey, ("ann", 2), Day, [person, late], None, [bank], [talk], [loft])
            self.refuses(BadKey, ("ann", 2), Day, [CY, person, late], None, (bank,), (talk,), (loft,))
            self.refuses(BadKey, ("bo", 1), Day, [late, person], None, [bank], [talk], [loft])

    def test_orders_that_are_not_just_the_errands(self):
        ann = Person("ann", "inn", 0, [("counter", "bank", 0), ("stay", "far", 0), ("counter", "bank", 0),
                                       ("room", "loft", 0), ("meet", "talk")])
        right = [("ann", 0), ("ann", 2)]
        talk = Meeting("talk", "inn", 0, 0, 6)
        for order in ([], [("ann", 0)], [("ann", 2)], [*right, ("ann", 1)], [*right, ("ann", 3)], [*right, ("zoe", 0)],
                      [("ann", 0), ("ann", 1)], [("ann", 0), ("ann", 3)]):
            bank = Counter("bank", "inn", order=order)
            self.refuses(BadOrder, "bank", Day, [ann], None, [TILL, bank], [talk], [Room("loft", "inn")])
        bank = Counter("bank", "inn", order=right[::-1])
        for order in ([], [("ann", 0)], [("ann", 3), ("ann", 0)], [("ann", 4)], [("zoe", 3)]):
            rooms = [Room("bath", "inn"), Room("loft", "inn", 0, order)]
            self.refuses(BadOrder, "loft", Day, [ann], None, [TILL, bank], [talk], rooms)
        till = Counter("till", "inn", order=[("ann", 0)])
        self.refuses(BadOrder, "till", Day, [ann], None, [till, Counter("bank", "inn")], [talk], [Room("loft", "inn")])
        self.refuses(BadOrder, "bank", Day, [ann], None, [Counter("bank", "inn"), till], [talk], [Room("loft", "inn")])
        self.refuses(BadOrder, "till", Day, [ann], None, [bank, till], [talk], [Room("loft", "inn")])
        struck = Person("ann", "inn", 0, [None, ("counter", "bank", 0)])
        self.refuses(BadOrder, "bank", Day, [struck], None, [Counter("bank", "inn", order=[("ann", 0), ("ann", 1)])])

    def test_quorums(self):
        people = [Person(name, "inn", 0, [("stay", "far", 0), ("meet", "talk")]) for name in ("ann", "bo")]
        for quorum in (3, 6):
            self.refuses(BadPart, "quorum", Day, people, None, [], [Meeting("talk", "inn", 0, 0, quorum)])
        self.refuses(BadPart, "quorum", Day, people, None, [],
                     [Meeting("talk", "inn", 0, 0, 2), Meeting("chat", "inn", 0, 0)])
        ways = Ways({("inn", "far"): stay(), ("far", "inn"): stay()})
        self.assertEqual(len(Day(people, ways, [], [Meeting("talk", "inn", 0, 0, 2)]).all_keys()), 4)
        self.refuses(BadPart, "quorum", Day, [CY], ways, [], [Meeting("chat", "inn", 0, 0)])

    def test_legs_without_a_way(self):
        bank = Counter("bank", "hall", order=[("ann", 0), ("bo", 0)])
        two = [Person("ann", "inn", 0, [("counter", "bank", 10)]), Person("bo", "inn", 0, [("counter", "bank", 4)])]
        self.assertEqual(len(Day(two, Ways({("inn", "hall"): steady(5)}), [bank]).all_keys()), 2)
        self.refuses(BadOrder, "bank", Day, two, Ways({("inn", "hall"): steady(5)}),
                     [Counter("bank", "hall", order=[("ann", 0)])])
        self.refuses(NoWay, ("inn", "hall"), Day, two, Ways(), [bank])
        self.refuses(NoWay, ("inn", "hall"), Day, two, Ways({("hall", "inn"): steady(5)}), [bank])
        errands = [("stay", "inn", 0), None, ("stay", "hall", 0), ("stay", "mill", 0), ("stay", "inn", 0)]
        ways = Ways({("inn", "hall"): stay(), ("mill", "inn"): stay()})
        self.refuses(NoWay, ("hall", "mill"), Day, [CY, Person("ann", "inn", 0, errands)], ways)
        self.refuses(NoWay, ("hall", "inn"), Day, [Person("bo", "hall", 0, errands), Person("ann", "inn", 0, errands)],
                     ways)
        self.refuses(NoWay, ("inn", "mill"), Day, [Person("ann", "inn", 0, [None, None, None, ("stay", "mill", 0)])], ways)

    def test_each_refusal_ahead_of_those_behind_it(self):
        wrong = {"people": [CY, 5], "again": [CY, CY], "ways": 5, "counters": 5, "meetings": 5, "rooms": 5}
        self.refuses(BadPart, "people", Day, wrong["people"], 5, 5, 5, 5)
        self.refuses(BadName, "cy", Day, wrong["again"], 5, 5, 5, 5)
        self.refuses(BadPart, "ways", Day, [CY], 5, 5, 5, 5)
        self.refuses(BadPart, "counters", Day, [CY], None, [5], 5, 5)
        self.refuses(BadPart, "meetings", Day, [CY], None, [TILL, TILL], 5, 5)
        self.refuses(BadPart, "rooms", Day, [CY], None, [TILL, TILL], [], 5)
        self.refuses(BadName, "till", Day, [CY], None, [TILL, TILL], [], [])


if __name__ == "__main__":
    unittest.main()
