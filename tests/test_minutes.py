"""[3] (c), [8], [9], [47], [48]: what happens minute by minute, and where people are."""
import sys
import unittest
from pathlib import Path

sys.path.insert(0, str(Path(__file__).parent))

from byhand import ByHand, known, some_days, worked
from checks import NO_COUNTS, NO_NAMES, ODD, Promises
from risingday.counters import Counter
from risingday.days import Day, changed_by
from risingday.errors import BadName, BadNumber, BadPart, Ring
from risingday.hours import Hours
from risingday.meetings import Meeting
from risingday.minutes import (happenings, is_happenings, last_minute, longest_wait_row, moments_by_play, never_ones,
                               served_at, state_of, there, waiting_at)
from risingday.needs import shortest_ring
from risingday.people import Person
from risingday.places import Ways
from risingday.rising import nowhere, since, steady
from risingday.rooms import Room
from test_days import told
from test_keys import NO_DAYS, NO_MOMENT_KEYS
from test_moments import open_day
from test_needs import at_one_place

END = 700


def can_happen(hand, moment, at, minute):
    """[47], by what has happened (at) alone."""
    key, word = moment[:2], moment[2]
    errand = hand.errand(key)
    host = hand.hosts.get(errand[1]) if errand[0] != "stay" else None
    if word == "arrives":
        ahead = hand.ahead(key)
        if ahead is None:
            start = hand.people[key[0]].leaves
            return minute >= start and minute == hand.leg(key)(start)
        return (*ahead, "ends") in at and minute == hand.leg(key)(at[(*ahead, "ends")])
    if word == "begins":
        if errand[0] == "meet":
            return minute >= host.opens and len([other for other in hand.met(key) if (*other, "arrives") in at]) >= host.quorum
        if (*key, "arrives") not in at:
            return False
        if errand[0] == "counter":
            ahead = hand.before(key)
            busy = [other for other in ahead if (*other, "begins") in at and (*other, "ends") not in at]
            spans = host.hours.spans()
            within = spans is None or any(start <= minute and minute + errand[2] <= end for start, end in spans)
            return all((*other, "begins") in at for other in ahead) and len(busy) < host.desks and within
        if errand[0] == "room" and hand.before(key):
            end = (*hand.before(key)[-1], "ends")
            return end in at and at[end] + host.turn <= minute
        return True
    if (*key, "begins") not in at:
        return False
    begin = at[(*key, "begins")]
    if errand[0] == "meet":
        return begin + host.length <= minute and (*key, "arrives") in at
    if begin + errand[2] == minute:
        return True
    behind = hand.behind(key)
    return (behind is not None and (*behind, "arrives") in at
            and max(begin, at[(*behind, "arrives")]) + host.noticed()[key] <= minute)


def played_by_hand(day, end=END):
    """Minute by minute, each time the first one that can happen."""
    hand, at, row = ByHand(day), {}, []
    for minute in range(end):
        while True:
            found = [moment for moment in hand.moments if moment not in at and can_happen(hand, moment, at, minute)]
            if not found:
                break
            at[found[0]] = minute
            row.append((minute, found[0]))
    return row


def state_by_hand(day, name, minute, values):
    """[48], by the moments."""
    hand = ByHand(day)
    keys = [key for key in hand.keys if key[0] == name]
    if not keys or minute < hand.people[name].leaves:
        return ("home",)
    state = None
    place = hand.people[name].home
    for key in keys:
        if state is not None:
            break
        arrives, begins, ends = [known(values[(*key, word)]) for word in ("arrives", "begins", "ends")]
        if minute < arrives:
            state = ("way", place, hand.place(key))
        elif minute < begins:
            state = ("waits", key)
        elif minute < ends:
            state = ("busy", key)
        place = hand.place(key)
    return state or ("done", place)


def minutes_of_change(day):
    values = [value for value in worked(day).values() if value is not None]
    values += [person.leaves for person in day.persons()]
    return sorted({0, 1, *values, *[value + 1 for value in values], *[max(0, value - 1) for value in values]})


class Played(Promises):
    def test_minute_by_minute(self):
        for day in some_days(60, 3, 3):
            if max([known(value) for value in worked(day).values() if value is not None], default=0) < END:
                row = played_by_hand(day)
                self.assertEqual(happenings(day), row)
                self.assertIs(is_happenings(day, row), True)

    def test_the_moments_by_their_rules(self):
        for day in some_days(120, 4, 4, start=200):
            values = worked(day)
            self.assertEqual(moments_by_play(day), values)
            self.assertEqual(list(moments_by_play(day=day)), list(values))
            self.assertEqual(never_ones(day), [key for key, value in values.items() if value is None])
            self.assertEqual(last_minute(day), max([value for value in values.values() if value is not None], default=None))
            row = happenings(day=day)
            self.assertEqual([minute for minute, _ in row], sorted(minute for minute, _ in row))
            self.assertEqual({key: minute for minute, key in row}, {key: value for key, value in values.items() if value is not None})

    def test_the_order_within_one_minute(self):
        # Ann has to wait for bo, who is behind her in the day; the meeting begins ahead of cy's arrival.
        day = Day([Person("ann", "inn", 0, [("counter", "till", 0), ("meet", "talk")]),
                   Person("bo", "inn", 0, [("counter", "till", 0), ("meet", "talk")]),
                   Person("cy", "inn", 0, [("meet", "talk")])], None,
                  [Counter("till", "inn", 1, None, [("bo", 0), ("ann", 0)])], [Meeting("talk", "inn", 0, 0, 1)])
        self.assertEqual(happenings(day), [
            (0, ("ann", 0, "arrives")), (0, ("bo", 0, "arrives")), (0, ("bo", 0, "begins")), (0, ("bo", 0, "ends")),
            (0, ("ann", 0, "begins")), (0, ("ann", 0, "ends")), (0, ("ann", 1, "arrives")), (0, ("ann", 1, "begins")),
            (0, ("ann", 1, "ends")), (0, ("bo", 1, "arrives")), (0, ("bo", 1, "begins")), (0, ("bo", 1, "ends")),
            (0, ("cy", 0, "arrives")), (0, ("cy", 0, "begins")), (0, ("cy", 0, "ends"))])
        self.assertEqual(happenings(day), played_by_hand(day, 3))
        late = changed_by(changed_by(day, ("leaves", "ann", 9)), ("leaves", "bo", 9))
        # Cy alone is the quorum: the meeting begins for the others, too, who are not there yet.
        self.assertEqual(happenings(late)[:5], [(0, ("cy", 0, "arrives")), (0, ("ann", 1, "begins")), (0, ("bo", 1, "begins")),
                                                (0, ("cy", 0, "begins")), (0, ("cy", 0, "ends"))])

    def test_days_with_never(self):
        day = at_one_place({"ann": [("counter", "till", 10)], "bo": [("counter", "till", 4), ("stay", "inn", 1)]})
        day = changed_by(day, ("hours", "till", Hours([(3, 13)])))
        self.assertEqual(happenings(day), [(0, ("ann", 0, "arrives")), (0, ("bo", 0, "arrives")), (3, ("ann", 0, "begins")), (13, ("ann", 0, "ends"))])
        never = [("bo", 0, "begins"), ("bo", 0, "ends"), ("bo", 1, "arrives"), ("bo", 1, "begins"), ("bo", 1, "ends")]
        self.assertEqual((never_ones(day=day), last_minute(day=day)), (never, 13))
        self.assertEqual([moments_by_play(day)[key] for key in never], [None] * 5)
        nobody = Day([Person("ann", "inn", 7, [("stay", "hall", 1)])], Ways({("inn", "hall"): nowhere()}))
        self.assertEqual((happenings(nobody), last_minute(nobody), len(never_ones(nobody))), ([], None, 3))

    def test_far_away_minutes(self):
        day = Day([Person("ann", "inn", 7, [("stay", "hall", 600)])], Ways({("inn", "hall"): since(10 ** 19)}))
        self.assertEqual(happenings(day), [(10 ** 19, ("ann", 0, "arrives")), (10 ** 19, ("ann", 0, "begins")), (10 ** 19 + 600, ("ann", 0, "ends"))])

    def test_nothing_happens(self):
        for day in (Day(), Day([Person("ann", "inn", 5)], None, [Counter("till", "inn")], [], [Room("bath", "inn")])):
            self.assertEqual((happenings(day), moments_by_play(day), never_ones(day), last_minute(day)), ([], {}, [], None))
            self.assertIs(is_happenings(day, []), True)

    def test_any_value(self):
        day = at_one_place({"ann": [("counter", "till", 10)], "bo": [("counter", "till", 4)]})
        row = happenings(day)
        self.assertIs(is_happenings(day=day, value=list(row)), True)
        for value in [*ODD, None, 5, (), [], tuple(row), row[:-1], [*row, row[-1]], row[::-1], [list(item) for item in row],
                      [(key, minute) for minute, key in row], [*row[:-1], (15, row[-1][1])], [*row[:-1], None], [*row[:-1], (14,)],
                      [(False, row[0][1]), *row[1:]], [(0, ("ann", False, "arrives")), *row[1:]], [row[1], row[0], *row[2:]],
                      [(*row[0], 0), *row[1:]], dict(row), [*row[:-1], (None, row[-1][1])]]:
            self.assertIs(is_happenings(day, value), False, value)
        for key in NO_MOMENT_KEYS:
            if key != row[0][1]:
                self.assertIs(is_happenings(day, [(0, key), *row[1:]]), False, key)

    def test_lists_that_are_changed(self):
        day = open_day()
        for call in (happenings, moments_by_play):
            first = call(day)
            call(day).clear()
            self.assertEqual(call(day), first)
        shut = changed_by(day, ("hours", "bank", Hours([])))
        never_ones(shut).clear()
        self.assertTrue(never_ones(shut))


class Where(Promises):
    def test_states_by_hand(self):
        seen = set()
        for day in some_days(60, 3, 3, start=400):
            values = worked(day)
            for person in day.persons():
                for minute in minutes_of_change(day):
                    state = state_of(day, person.name, minute)
                    self.assertEqual(state, state_by_hand(day, person.name, minute, values))
                    seen.add(state[0])
        self.assertEqual(seen, {"home", "way", "waits", "busy", "done"})

    def test_each_word_at_its_minutes(self):
        day = Day([Person("ann", "inn", 5, [("stay", "hall", 7), None, ("counter", "till", 4), ("stay", "mill", 0)]),
                   Person("bo", "inn", 3), Person("cy", "inn", 3, [None])],
                  Ways({("inn", "hall"): steady(10), ("hall", "mill"): steady(2)}),
                  [Counter("till", "hall", 1, Hours([(30, 40)]), [("ann", 2)])])
        expected = {0: ("home",), 4: ("home",), 5: ("way", "inn", "hall"), 14: ("way", "inn", "hall"), 15: ("busy", ("ann", 0)),
                    21: ("busy", ("ann", 0)), 22: ("waits", ("ann", 2)), 29: ("waits", ("ann", 2)), 30: ("busy", ("ann", 2)),
                    33: ("busy", ("ann", 2)), 34: ("way", "hall", "mill"), 35: ("way", "hall", "mill"), 36: ("done", "mill"),
                    10 ** 15: ("done", "mill")}
        for minute, state in expected.items():
            self.assertEqual(state_of(day, "ann", minute), state, minute)
        for name in ("bo", "cy"):
            for minute in (0, 3, 10 ** 9):
                self.assertEqual(state_of(day=day, name=name, minute=minute), ("home",))
        self.assertEqual([there(day, place, 5) for place in ("inn", "hall", "mill")], [["bo", "cy"], [], []])
        self.assertEqual([there(day, place, 4) for place in ("inn", "hall", "mill")], [["ann", "bo", "cy"], [], []])
        self.assertEqual([there(day=day, place=place, minute=22) for place in ("inn", "hall", "mill")], [["bo", "cy"], ["ann"], []])
        self.assertEqual([there(day, place, 36) for place in ("inn", "hall", "mill")], [["bo", "cy"], [], ["ann"]])
        lost = changed_by(day, ("way", ("inn", "hall"), nowhere()))
        self.assertEqual(state_of(lost, "ann", 10 ** 12), ("way", "inn", "hall"))

    def test_at_once_at_the_same_place(self):
        day = at_one_place({"ann": [("stay", "inn", 5), ("stay", "inn", 0)]})
        self.assertEqual([state_of(day, "ann", minute) for minute in (0, 4, 5)], [("busy", ("ann", 0)), ("busy", ("ann", 0)), ("done", "inn")])

    def test_there_by_hand(self):
        for day in some_days(40, 4, 3, start=500):
            values = worked(day)
            hand = ByHand(day)
            for minute in minutes_of_change(day)[::2]:
                at = {}
                for person in day.persons():
                    state = state_by_hand(day, person.name, minute, values)
                    place = {"home": lambda: person.home, "way": lambda: None, "waits": lambda: hand.place(state[1]),
                             "busy": lambda: hand.place(state[1]), "done": lambda: state[1]}[state[0]]()
                    at.setdefault(place, []).append(person.name)
                for place in day.all_places():
                    self.assertEqual(there(day, place, minute), at.get(place, []))


class AtHosts(Promises):
    def keys_at(self, day, name):
        hand = ByHand(day)
        host = hand.hosts[name]
        if isinstance(host, Meeting):
            return [key for key in hand.keys if hand.errand(key) == ("meet", name)]
        return list(host.order)

    def test_by_hand(self):
        many = set()
        for day in some_days(40, 4, 3, start=600):
            values = worked(day)
            for name in ByHand(day).hosts:
                keys = self.keys_at(day, name)
                best = (0, 0)
                for minute in minutes_of_change(day):
                    at = {key: [known(values[(*key, word)]) <= minute for word in ("arrives", "begins", "ends")] for key in keys}
                    waiting = [key for key in keys if at[key][0] and not at[key][1]]
                    served = [key for key in keys if at[key][0] and at[key][1] and not at[key][2]]
                    self.assertEqual(waiting_at(day, name, minute), waiting)
                    self.assertEqual(served_at(day, name, minute), served)
                    if len(waiting) > best[0]:
                        best = (len(waiting), minute)
                self.assertEqual(longest_wait_row(day, name), best)
                many.add(best[0])
        self.assertTrue({0, 1, 2} <= many)

    def test_a_counter(self):
        day = at_one_place({"ann": [("counter", "till", 5)], "bo": [("counter", "till", 4)], "cy": [("counter", "till", 3)]},
                           orders={"till": [("cy", 0), ("ann", 0), ("bo", 0)]})
        self.assertEqual([waiting_at(day=day, name="till", minute=minute) for minute in (0, 2, 3, 7, 8)],
                         [[("ann", 0), ("bo", 0)], [("ann", 0), ("bo", 0)], [("bo", 0)], [("bo", 0)], []])
        self.assertEqual([served_at(day=day, name="till", minute=minute) for minute in (0, 2, 3, 8, 11, 12)],
                         [[("cy", 0)], [("cy", 0)], [("ann", 0)], [("bo", 0)], [("bo", 0)], []])
        self.assertEqual((longest_wait_row(day=day, name="till"), longest_wait_row(day, "bath")), ((2, 0), (0, 0)))
        late = changed_by(day, ("leaves", "bo", 3))
        self.assertEqual(longest_wait_row(late, "till"), (1, 0))
        later = changed_by(changed_by(day, ("leaves", "cy", 6)), ("leaves", "bo", 2))
        self.assertEqual(longest_wait_row(later, "till"), (2, 2))

    def test_a_meeting_and_a_room(self):
        day = Day([Person("ann", "inn", 4, [("meet", "talk"), ("room", "bath", 5)]), Person("bo", "inn", 9, [("meet", "talk"), ("room", "bath", 5)]),
                   Person("cy", "inn", 0, [("meet", "talk")])], None, [], [Meeting("talk", "inn", 2, 20, 2)],
                  [Room("bath", "inn", 3, [("bo", 1), ("ann", 1)])])
        self.assertEqual([waiting_at(day, "talk", minute) for minute in (0, 3, 4)], [[("cy", 0)], [("cy", 0)], []])
        self.assertEqual([served_at(day, "talk", minute) for minute in (3, 4, 9, 23, 24)],
                         [[], [("ann", 0), ("cy", 0)], [("ann", 0), ("bo", 0), ("cy", 0)], [("ann", 0), ("bo", 0), ("cy", 0)], []])
        self.assertEqual([(waiting_at(day, "bath", minute), served_at(day, "bath", minute)) for minute in (23, 24, 28, 29, 31, 32, 37)],
                         [([], []), ([("ann", 1)], [("bo", 1)]), ([("ann", 1)], [("bo", 1)]), ([("ann", 1)], []), ([("ann", 1)], []),
                          ([], [("ann", 1)]), ([], [])])
        self.assertEqual((longest_wait_row(day, "talk"), longest_wait_row(day, "bath")), ((1, 0), (1, 24)))

    def test_nobody_ever_waits(self):
        day = Day([Person("ann", "inn", 5)], None, [Counter("till", "inn")], [], [Room("bath", "inn")])
        for name in ("till", "bath"):
            self.assertEqual((waiting_at(day, name, 9), served_at(day, name, 9), longest_wait_row(day, name)), ([], [], (0, 0)))
        closed = changed_by(at_one_place({"ann": [("counter", "till", 5)]}), ("hours", "till", Hours([])))
        self.assertEqual((longest_wait_row(closed, "till"), waiting_at(closed, "till", 10 ** 9)), ((1, 0), [("ann", 0)]))


class Refusals(Promises):
    def test_days(self):
        calls = [happenings, lambda day: is_happenings(day, 5), moments_by_play, never_ones, last_minute,
                 lambda day: state_of(day, 5, -1), lambda day: there(day, 5, -1), lambda day: waiting_at(day, 5, -1),
                 lambda day: served_at(day, 5, -1), lambda day: longest_wait_row(day, 5)]
        for call in calls:
            self.refuses_part("day", NO_DAYS, call)
            self.refuses(Ring, shortest_ring(told()), call, told())

    def test_names_places_and_minutes(self):
        day = open_day()
        self.refuses_each(BadName, [*NO_NAMES, "zoe", "bank", "hall"], lambda name: state_of(day, name, -1))
        for call in (lambda name: waiting_at(day, name, -1), lambda name: served_at(day, name, -1), lambda name: longest_wait_row(day, name)):
            self.refuses_each(BadName, [*NO_NAMES, "zoe", "ann", "hall"], call)
        self.refuses_part("place", [*NO_NAMES, "zoe", "ann", "bank"], lambda place: there(day, place, -1))
        for call in (lambda minute: state_of(day, "ann", minute), lambda minute: there(day, "inn", minute),
                     lambda minute: waiting_at(day, "bank", minute), lambda minute: served_at(day, "talk", minute),
                     lambda minute: waiting_at(day, "bath", minute)):
            self.refuses_each(BadNumber, NO_COUNTS, call)
        with self.assertRaises(BadPart):
            there(day, [], 0)


if __name__ == "__main__":
    unittest.main()
