"""[3] (i), [20], [42] to [45]: tidings."""
import random
import sys
import unittest
from pathlib import Path

sys.path.insert(0, str(Path(__file__).parent))

from byhand import ByHand, known, some_days, some_hours, some_map, worked
from checks import NO_COUNTS, NO_LISTS, NO_NAMES, ODD, Promises
from risingday.counters import Counter
from risingday.days import Day, changed_by
from risingday.errors import BadNumber, BadPart, BadTiding, DayError, Ring
from risingday.hours import Hours
from risingday.moments import moments
from risingday.needs import hangs_on, is_barred, shortest_ring
from risingday.people import Person
from risingday.places import Ways
from risingday.rising import nowhere, since, steady, until
from risingday.settings import SETTINGS
from risingday.tidings import (are_apart, comes_late, day_behind, day_told, direction, hanging, is_tiding, reach)
from test_days import NO_ERRAND_KEYS, told
from test_keys import NO_DAYS
from test_moments import open_day
from test_needs import at_one_place

CALLS = {"is_tiding": is_tiding, "day_behind": day_behind, "direction": direction, "reach": reach, "hanging": hanging,
         "comes_late": lambda day, value: comes_late(day, value, -1), "are_apart": lambda day, value: are_apart(day, value, 5)}


def some_tiding(chance, day):
    """A value that has the form of a tiding of the day, perhaps none."""
    names = [person.name for person in day.persons()]
    key = chance.choice(day.all_keys())
    word, where = day.the_errand(key)[:2]
    values = [("leaves", chance.choice(names), chance.randrange(40)), ("struck", key)]
    for pair in day.all_ways().pairs()[:3]:
        rising = day.all_ways().leg(*pair)
        values.append(("way", pair, chance.choice([some_map(chance), rising, rising >> steady(2), rising & since(20), rising >> until(40)])))
    if word != "meet":
        values += [("n", key, chance.randrange(12))] * 2
    if word == "counter":
        spans = day.the_counter(where).hours.spans()
        values += [("desks", where, chance.randrange(1, 4)), ("hours", where, some_hours(chance) or Hours()),
                   ("exchange", where, chance.randrange(3))]
        if spans:
            values.append(("hours", where, Hours([*spans[:-1], (spans[-1][0], spans[-1][1] + chance.choice([0, 1]))])))
    if word == "meet":
        values += [("opens", where, chance.randrange(50)), ("length", where, chance.randrange(9)), *[("quorum", where, chance.randrange(1, 4))] * 3]
    if word == "room":
        values += [("turn", where, chance.randrange(7)), ("exchange", where, chance.randrange(3))]
        if day.notice_of(key) is not None:
            values += [("notice", key, chance.randrange(9))] * 2
    return chance.choice(values)


def behind_by_hand(day, value):
    """The day behind, None if the value is no tiding, by [42] of values of the right form."""
    try:
        if value[0] == "exchange":
            hosts = {host.name: host for host in [*day.all_counters(), *day.all_rooms()]}
            order = list(hosts[value[1]].order)
            if value[2] + 1 >= len(order):
                return None
            order[value[2]], order[value[2] + 1] = order[value[2] + 1], order[value[2]]
            found = changed_by(day, ("order", value[1], order))
        else:
            found = changed_by(day, value)
    except DayError:
        return None
    return None if is_barred(found) else found


def some_tidings(seed, many, each=6, people=3, errands=3):
    """Days with tidings of them."""
    chance = random.Random(seed)
    for day in some_days(many, people, errands, start=seed):
        if day.all_keys():
            values = [some_tiding(chance, day) for _ in range(each)]
            yield day, [value for value in values if behind_by_hand(day, value) is not None]


def rule_by_hand(hand, moment):
    """[44]: the kind, the told numbers, the map and the hours, and the needs."""
    key, word = moment[:2], moment[2]
    errand = hand.errand(key)
    host = hand.hosts.get(errand[1]) if errand[0] != "stay" else None
    used = []
    if word == "arrives":
        used = [hand.leg(key).rows]
        if hand.ahead(key) is None:
            used.append(hand.people[key[0]].leaves)
    if word == "begins" and errand[0] == "counter":
        j = len(hand.before(key))
        used = [errand[2], host.hours.spans(), max(0, j - host.desks + 1)]
    if word == "begins" and errand[0] == "meet":
        used = [host.opens, host.quorum]
    if word == "begins" and errand[0] == "room" and hand.before(key):
        used = [host.turn]
    if word == "ends":
        used = [host.length if errand[0] == "meet" else errand[2]]
        if hand.behind(key) is not None:
            used.append(host.noticed()[key])
    return (word, errand[0], used, hand.needs(moment))


def touched_by_hand(day, behind):
    one, two = ByHand(day), ByHand(behind)
    return {key for key in one.moments if key not in two.moments or rule_by_hand(one, key) != rule_by_hand(two, key)}


def hanging_by_hand(days, touched):
    """By rounds."""
    hands = [ByHand(day) for day in days]
    found = set(touched)
    while True:
        more = {key for hand in hands for key in hand.moments if key not in found and found & set(hand.needs(key))}
        if not more:
            return found
        found |= more


def in_order(day, keys):
    return [key for key in ByHand(day).moments if key in keys]


def reached_by_hand(day, behind):
    one, two = worked(day), worked(behind)
    return [key for key in one if key not in two or one[key] != two[key]]


class Tidings(Promises):
    def test_each_word(self):
        day = open_day()
        order = list(day.the_counter("bank").order)
        room = list(day.the_room("bath").order)
        let = {("leaves", "ann", 9999): None, ("leaves", "cy", 0): None, ("n", ("ann", 0), 600): None, ("n", ("ann", 4), 0): None,
               ("n", ("bo", 1), 9): None, ("opens", "talk", 0): None, ("length", "talk", 600): None, ("quorum", "talk", 1): None,
               ("desks", "till", 3): None, ("turn", "loft", 600): None, ("notice", ("ann", 3), 600): None, ("struck", ("ann", 0)): None,
               ("exchange", "bank", 0): ("order", "bank", order[::-1]), ("struck", ("bo", 2)): None}
        for value, setting in let.items():
            self.assertIs(is_tiding(day, value), True, value)
            self.assertEqual(day_behind(day=day, tiding=value), changed_by(day, setting or value))
        for value in [("hours", "bank", Hours()), ("hours", "till", Hours([])), ("way", ("yard", "inn"), nowhere()),
                      ("way", ("inn", "hall"), steady(5))]:
            self.assertIs(is_tiding(day=day, value=value), True, value)
            self.assertEqual(day_behind(day, value), changed_by(day, value))
        barred = changed_by(day, ("order", "bath", room[::-1]))
        self.assertIs(is_tiding(day, ("exchange", "bath", 0)), not is_barred(barred))

    def test_what_is_none(self):
        day = open_day()
        order = list(day.the_counter("bank").order)
        ways = [("way", ("inn", "yard"), steady(1)), ("way", ("yard", "inn"), None), ("way", ("inn", "hall"), None),
                ("way", ("hall", "yard"), None), ("way", ("inn", "inn"), steady(1)), ("way", ["inn", "hall"], steady(1)),
                ("way", ("inn", "hall"), ((0, 0, True),)), ("way", "inn", "hall")]
        for value in [*ODD, None, 5, [], (), ("leaves",), ("leaves", "ann"), ("leaves", "ann", 5, 6), ["leaves", "ann", 5],
                      ("order", "bank", order), ("order", "bank", order[::-1]), ("Leaves", "ann", 5), (None, "ann", 5),
                      ("change", "bank", 0), ("bank", "exchange", 0), (b"exchange", "bank", 0), (["exchange"], "bank", 0), ["exchange", "bank", 0],
                      (["leaves"], "ann", 5), ("notice", ("ann", 3), None), ("notice", ("ann", 0), 5), ("struck",),
                      ("struck", ("ann", 0), 0), ("exchange", "bank"), ("exchange", "bank", 0, 0), *ways,
                      ("quorum", "talk", 0), ("quorum", "talk", 3), ("struck", ("ann", 2)), ("desks", "bank", 0), ("desks", "bank", 4),
                      ("n", ("ann", 2), 5), ("n", ("ann", 0), 601), ("leaves", "ann", 10000), ("hours", "bank", None),
                      ("hours", "bank", [(0, 9)]), ("opens", "talk", 10000), ("length", "talk", 601), ("turn", "bath", 601),
                      ("notice", ("bo", 1), 5), ("notice", ("ann", 3), 601), ("desks", "talk", 1), ("opens", "bank", 1), ("turn", "bank", 1), ("hours", "bath", Hours())]:
            self.assertIs(is_tiding(day, value), False, value)
        for wrong in NO_COUNTS:
            for value in [("leaves", "ann", wrong), ("n", ("ann", 0), wrong), ("opens", "talk", wrong), ("length", "talk", wrong),
                          ("quorum", "talk", wrong), ("desks", "bank", wrong), ("turn", "bath", wrong),
                          ("notice", ("ann", 3), wrong), ("exchange", "bank", wrong)]:
                self.assertIs(is_tiding(day, value), False, value)
        for place in (-1, 1, 2, 5):
            self.assertIs(is_tiding(day, ("exchange", "bank", place)), False)
        self.assertIs(is_tiding(day, ("exchange", "till", 0)), False)
        for wrong in [*NO_NAMES, "zoe"]:
            for word in ("leaves", "opens", "length", "quorum", "desks", "turn", "exchange"):
                self.assertIs(is_tiding(day, (word, wrong, 1)), False, (word, wrong))
            self.assertIs(is_tiding(day, ("hours", wrong, Hours())), False)
        for wrong in NO_ERRAND_KEYS:
            for value in [("n", wrong, 1), ("notice", wrong, 1), ("struck", wrong)]:
                self.assertIs(is_tiding(day, value), False, value)

    def test_a_notice_of_an_errand_that_is_no_guest(self):
        day = at_one_place({"ann": [("room", "bath", 5)], "bo": [("room", "bath", 5)]}, notices={("ann", 0): 3})
        self.assertIs(is_tiding(day, ("notice", ("ann", 0), 4)), True)
        self.assertIs(is_tiding(day, ("notice", ("bo", 0), 4)), False)
        last = changed_by(day, ("notice", ("bo", 0), 0))
        self.assertIs(is_tiding(last, ("notice", ("bo", 0), 4)), True)

    def test_that_bar_the_day_or_cannot_be_let(self):
        day = at_one_place({"ann": [("counter", "till", 1), ("counter", "till", 2)], "bo": [("counter", "till", 3)]})
        self.assertEqual(day.the_counter("till").order, (("ann", 0), ("ann", 1), ("bo", 0)))
        self.assertIs(is_tiding(day, ("exchange", "till", 0)), False)
        self.assertIs(is_tiding(day, ("exchange", "till", 1)), True)
        # Without the errand in the hall a way from the inn to the mill is wanted.
        ways = Ways({("inn", "hall"): steady(1), ("hall", "mill"): steady(1)})
        day = Day([Person("ann", "inn", 0, [("stay", "hall", 1), ("stay", "mill", 1)])], ways)
        self.assertIs(is_tiding(day, ("struck", ("ann", 0))), False)
        self.assertIs(is_tiding(day, ("struck", ("ann", 1))), True)

    def test_by_chance(self):
        chance = random.Random(1)
        seen = {}
        for day in some_days(80, 3, 3):
            for _ in range(12 if day.all_keys() else 0):
                value = some_tiding(chance, day)
                behind = behind_by_hand(day, value)
                self.assertIs(is_tiding(day, value), behind is not None, value)
                seen.setdefault((value[0], behind is not None), 0)
                seen[value[0], behind is not None] += 1
                if behind is None:
                    self.refuses(BadTiding, 0, day_behind, day, value)
                else:
                    self.assertEqual(day_behind(day, value), behind)
        words = {*SETTINGS, "exchange"} - {"order"}
        self.assertEqual({word for word, good in seen if good}, words)
        self.assertTrue({"exchange", "struck", "quorum"} <= {word for word, good in seen if not good})

    def test_one_behind_the_other(self):
        chance = random.Random(2)
        for day in some_days(30, 3, 3, start=50):
            expected, rows = day, []
            while len(rows) < 4 and expected.all_keys():
                value = some_tiding(chance, expected)
                if behind_by_hand(expected, value) is not None:
                    rows.append(value)
                    expected = behind_by_hand(expected, value)
            self.assertEqual(day_told(day, rows), expected)
            self.assertEqual(day_told(day=day, tidings=tuple(rows)), expected)
        day = open_day()
        self.assertIs(day_told(day, []) == day, True)

    def test_the_first_that_is_none(self):
        day = open_day()
        strike = ("struck", ("ann", 0))
        self.refuses(BadTiding, 1, day_told, day, [strike, strike])
        self.refuses(BadTiding, 1, day_told, day, [strike, ("n", ("ann", 0), 5), 7])
        self.refuses(BadTiding, 0, day_told, day, [None, strike])
        self.refuses(BadTiding, 2, day_told, day, (("leaves", "cy", 1), ("exchange", "bank", 0), ("order", "bank", [])))
        self.assertEqual(day_told(day, [("n", ("ann", 0), 5), strike]), changed_by(day, strike))
        self.refuses_part("tidings", NO_LISTS, lambda value: day_told(day, value))


class Directions(Promises):
    def test_of_each_kind(self):
        day = open_day()
        numbers = [("leaves", "ann", 0), ("n", ("ann", 0), 10), ("opens", "talk", 20), ("length", "talk", 30), ("turn", "bath", 4),
                   ("notice", ("ann", 3), 1), ("quorum", "talk", 2)]
        for word, what, now in numbers:
            self.assertEqual(direction(day, (word, what, now)), "same", word)
            if word != "quorum":
                self.assertEqual(direction(day, (word, what, now + 1)), "later", word)
            if now > 0:
                self.assertEqual(direction(day, (word, what, now - 1)), "earlier", word)
        day = changed_by(day, ("quorum", "talk", 1))
        self.assertEqual(direction(day=day, tiding=("quorum", "talk", 2)), "later")
        self.assertEqual([direction(day, ("desks", "bank", desks)) for desks in (1, 2, 3)], ["later", "same", "earlier"])
        self.assertEqual([direction(day, ("hours", "bank", Hours(spans))) for spans in
                          (None, [(0, 50)], [(0, 51)], [(0, 49)], [(1, 50)], [(0, 9), (12, 50)], [], [(1, 51)], [(0, 20), (60, 70)])],
                         ["earlier", "same", "earlier", "later", "later", "later", "later", "other", "other"])
        self.assertEqual([direction(day, ("hours", "till", Hours(spans))) for spans in (None, [(0, 9999)], [])],
                         ["same", "later", "later"])
        ways = [steady(5), steady(6), steady(4), steady(5) | since(9), steady(6) & since(20), steady(5) & (since(3) | steady(2)), nowhere()]
        self.assertEqual([direction(day, ("way", ("inn", "hall"), rising)) for rising in ways],
                         ["same", "later", "earlier", "later", "other", "earlier", "later"])
        self.assertEqual(direction(day, ("struck", ("ann", 4))), "other")
        self.assertEqual(direction(day, ("exchange", "bank", 0)), "other")

    def test_no_moment_the_other_way(self):
        seen = {}
        for day, values in some_tidings(3, 120):
            for value in values:
                word = direction(day, value)
                seen.setdefault(value[0], set()).add(word)
                ahead, behind = worked(day), worked(behind_by_hand(day, value))
                if word in ("same", "later"):
                    self.assertTrue(all(known(behind[key]) >= known(ahead[key]) for key in ahead))
                if word in ("same", "earlier"):
                    self.assertTrue(all(known(behind[key]) <= known(ahead[key]) for key in ahead))
                self.assertIs(word == "same", behind_by_hand(day, value) == day)
        for word in ("leaves", "n", "opens", "length", "quorum", "desks", "turn", "notice"):
            self.assertTrue({"later", "earlier"} <= seen[word] <= {"same", "later", "earlier"}, (word, seen[word]))
        self.assertEqual((seen["hours"], seen["way"]), ({"same", "later", "earlier", "other"},) * 2)
        self.assertEqual((seen["struck"], seen["exchange"]), ({"other"}, {"other"}))


class Reach(Promises):
    def test_by_hand(self):
        seen = {}
        for day, values in some_tidings(4, 150):
            for value in values:
                behind = behind_by_hand(day, value)
                found = reach(day, value)
                self.assertEqual(found, reached_by_hand(day, behind))
                hangs = hanging(day=day, tiding=value)
                touched = touched_by_hand(day, behind)
                self.assertEqual(hangs, in_order(day, hanging_by_hand([day, behind], touched)), value)
                self.assertTrue(set(found) <= set(hangs))
                seen.setdefault(value[0], set()).add((found == [], hangs == []))
        self.assertEqual(set(seen), {*SETTINGS, "exchange"} - {"order"})
        for word in ("leaves", "n", "hours", "way", "desks", "turn", "notice"):
            self.assertTrue({(False, False), (True, False), (True, True)} <= seen[word], (word, seen[word]))

    def test_comes_late_by_hand(self):
        chance = random.Random(5)
        many = 0
        for day, values in some_tidings(6, 60):
            for value in values:
                ahead, behind = worked(day), worked(behind_by_hand(day, value))
                found = reach(day, value)
                minutes = {0, 1, chance.randrange(60), 10 ** 9}
                for number in [ahead[key] for key in found] + [behind.get(key) for key in found]:
                    if number is not None:
                        minutes |= {number, number + 1, max(0, number - 1)}
                for minute in minutes:
                    late = [key for key in found if known(ahead[key]) < minute or known(behind.get(key, ahead[key])) < minute]
                    self.assertEqual(comes_late(day=day, tiding=value, minute=minute), late)
                    many += 0 < len(late) < len(found)
        self.assertGreater(many, 50)

    def test_what_is_not_used(self):
        day = open_day()
        # Nobody goes by this way, nobody is behind the last guest, nobody ahead in the loft.
        for value in [("way", ("yard", "inn"), nowhere()), ("notice", list(day.the_room("bath").noticed())[-1], 600),
                      ("turn", "loft", 9), ("desks", "till", 2), ("hours", "till", Hours([])), ("leaves", "cy", 9), ("desks", "bank", 3)]:
            self.assertEqual((reach(day, value), hanging(day, value), comes_late(day, value, 10 ** 9)), ([], [], []), value)

    def test_a_told_thing_that_changes_no_moment(self):
        day = open_day()
        self.assertEqual(reach(day, ("leaves", "ann", 0)), [])
        early = at_one_place({"ann": [("meet", "talk")], "bo": [("meet", "talk")]}, quorum=1)
        early = changed_by(early, ("opens", "talk", 50))
        value = ("leaves", "ann", 20)
        self.assertEqual(reach(early, value), [("ann", 0, "arrives")])
        self.assertEqual(hanging(early, value), [("ann", 0, "arrives"), ("ann", 0, "begins"), ("ann", 0, "ends"),
                                                 ("bo", 0, "begins"), ("bo", 0, "ends")])

    def test_the_n_of_a_gate_counts_also_if_it_is_always_open(self):
        day = at_one_place({"ann": [("counter", "till", 10)]})
        self.assertEqual(hanging(day, ("n", ("ann", 0), 11)), [("ann", 0, "begins"), ("ann", 0, "ends")])
        self.assertEqual(reach(day, ("n", ("ann", 0), 11)), [("ann", 0, "ends")])
        self.assertEqual(hanging(day, ("hours", "till", Hours([(0, 9999)]))), [("ann", 0, "begins"), ("ann", 0, "ends")])
        self.assertEqual(reach(day, ("hours", "till", Hours([(0, 9999)]))), [])

    def test_struck_errands(self):
        day = open_day()
        value = ("struck", ("ann", 0))
        found = reach(day, value)
        for word in ("arrives", "begins", "ends"):
            self.assertIn(("ann", 0, word), found)
        number = moments(day)["ann", 0, "arrives"]
        self.assertIn(("ann", 0, "arrives"), comes_late(day, value, number + 1))
        self.assertNotIn(("ann", 0, "arrives"), comes_late(day, value, number))

    def test_never_in_one_of_both_days(self):
        day = at_one_place({"ann": [("counter", "till", 10)], "bo": [("counter", "till", 4)]})
        shut = ("hours", "till", Hours([(0, 12)]))
        self.assertEqual(worked(changed_by(day, shut))["bo", 0, "begins"], None)
        self.assertEqual(reach(day, shut), [("bo", 0, "begins"), ("bo", 0, "ends")])
        self.assertEqual([comes_late(day, shut, minute) for minute in (10, 11, 14, 15)],
                         [[], [("bo", 0, "begins")], [("bo", 0, "begins")], [("bo", 0, "begins"), ("bo", 0, "ends")]])
        closed = changed_by(day, shut)
        wide = ("hours", "till", Hours())
        self.assertEqual([comes_late(closed, wide, minute) for minute in (10, 11)], [[], [("bo", 0, "begins")]])
        never = ("hours", "till", Hours([(0, 13)]))
        self.assertEqual((reach(closed, never), comes_late(closed, never, 10 ** 9)), ([], []))
        self.assertEqual(hanging(closed, never), [("ann", 0, "begins"), ("ann", 0, "ends"), ("bo", 0, "begins"), ("bo", 0, "ends")])

    def test_exchanges_of_two_alike(self):
        day = at_one_place({"ann": [("counter", "till", 5)], "bo": [("counter", "till", 5)], "cy": [("counter", "till", 5)]})
        value = ("exchange", "till", 0)
        self.assertEqual(reach(day, value), [(name, 0, word) for name in ("ann", "bo") for word in ("begins", "ends")])
        self.assertEqual(set(hanging(day, value)), {(name, 0, word) for name in ("ann", "bo", "cy") for word in ("begins", "ends")})


class Apart(Promises):
    def by_hand(self, day, one, other):
        with_one, with_other = behind_by_hand(day, one), behind_by_hand(day, other)
        both, turned = behind_by_hand(with_one, other), behind_by_hand(with_other, one)
        if both is None or turned is None or both != turned:
            return False
        days = [day, with_one, with_other, both]
        on_one = hanging_by_hand(days, touched_by_hand(day, with_one) | touched_by_hand(with_other, both))
        on_other = hanging_by_hand(days, touched_by_hand(day, with_other) | touched_by_hand(with_one, both))
        return not on_one & on_other

    def test_by_hand(self):
        seen = {True: 0, False: 0}
        for day, values in some_tidings(7, 55, 4, people=4, errands=2):
            for one in values:
                for other in values:
                    if "struck" in (one[0], other[0]) and one == other:
                        continue
                    try:
                        expected = self.by_hand(day, one, other)
                    except KeyError:
                        expected = False
                    self.assertIs(are_apart(day, one, other), expected, (one, other))
                    self.assertIs(are_apart(day=day, one=other, other=one), expected)
                    seen[expected] += 1
                    if expected:
                        self.assertEqual(reach(day_behind(day, other), one), reach(day, one))
                        self.assertEqual(reach(day_behind(day, one), other), reach(day, other))
        self.assertGreater(min(seen.values()), 40)

    def test_people_who_share_nothing(self):
        day = at_one_place({"ann": [("stay", "inn", 5)], "bo": [("stay", "inn", 5)], "cy": [("counter", "till", 5)], "di": [("counter", "till", 5)]})
        self.assertIs(are_apart(day, ("leaves", "ann", 5), ("leaves", "bo", 7)), True)
        self.assertIs(are_apart(day, ("struck", ("ann", 0)), ("n", ("bo", 0), 7)), True)
        self.assertIs(are_apart(day, ("leaves", "cy", 5), ("leaves", "bo", 7)), True)
        # Di's begin hangs on both.
        self.assertIs(are_apart(day, ("leaves", "cy", 5), ("leaves", "di", 7)), False)
        self.assertIs(are_apart(day, ("leaves", "cy", 0), ("leaves", "di", 7)), True)
        self.assertIs(are_apart(day, ("n", ("ann", 0), 9), ("n", ("ann", 0), 8)), False)
        self.assertIs(are_apart(day, ("n", ("ann", 0), 9), ("leaves", "ann", 8)), False)

    def test_that_are_none_behind_one_another(self):
        day = at_one_place({"ann": [("stay", "inn", 5), ("stay", "inn", 6)], "bo": [("stay", "inn", 5)]})
        self.assertIs(are_apart(day, ("struck", ("bo", 0)), ("struck", ("bo", 0))), False)
        self.assertIs(are_apart(day, ("struck", ("bo", 0)), ("n", ("bo", 0), 9)), False)
        self.assertIs(are_apart(day, ("n", ("bo", 0), 9), ("struck", ("bo", 0))), False)

    def test_other_days_in_another_order(self):
        day = at_one_place({name: [("counter", "till", 5)] for name in ("ann", "bo", "cy")})
        self.assertIs(are_apart(day, ("exchange", "till", 0), ("exchange", "till", 1)), False)
        # Both lead to the same day, but twice the same exchange is none.
        self.assertIs(are_apart(day, ("exchange", "till", 0), ("exchange", "till", 0)), False)
        self.assertIs(are_apart(day, ("desks", "till", 1), ("exchange", "till", 0)), True)

    def test_needs_of_the_day_behind_both(self):
        # The n counts for the gate, and bo begins behind ann: his moments hang on hers, though no minute is other.
        day = at_one_place({name: [("counter", "till", 5)] for name in ("ann", "bo")}, desks=2)
        self.assertEqual(reach(day, ("n", ("ann", 0), 9)), [("ann", 0, "ends")])
        self.assertIs(are_apart(day, ("n", ("ann", 0), 9), ("n", ("bo", 0), 9)), False)
        self.assertIs(are_apart(day, ("n", ("ann", 0), 9), ("desks", "till", 1)), False)
        self.assertIs(are_apart(day, ("desks", "till", 3), ("n", ("ann", 0), 9)), True)
        # A turn is used as soon as one is ahead: here nobody is.
        day = at_one_place({"ann": [("room", "bath", 5)], "bo": [("stay", "inn", 5)]})
        self.assertIs(are_apart(day, ("turn", "bath", 9), ("n", ("ann", 0), 9)), True)

    def test_refusals(self):
        day = open_day()
        self.refuses(BadTiding, 0, are_apart, day, 5, 5)
        self.refuses(BadTiding, 1, are_apart, day, ("leaves", "ann", 5), ("leaves", "zoe", 5))


class Refusals(Promises):
    def test_in_their_order(self):
        for name, call in [*CALLS.items(), ("day_told", day_told)]:
            self.refuses_part("day", NO_DAYS, lambda value: call(value, 5))
            self.refuses(Ring, shortest_ring(told()), call, told(), 5)
        day = open_day()
        for name, call in CALLS.items():
            if name != "is_tiding":
                for value in [*ODD, None, 5, (), ("struck", ("zoe", 0)), ("order", "bank", [])]:
                    self.refuses(BadTiding, 0, call, day, value)
        self.refuses_each(BadNumber, NO_COUNTS, lambda minute: comes_late(day, ("leaves", "ann", 5), minute))

    def test_the_day_stays_as_it_was(self):
        day = open_day()
        tidings = [("leaves", "ann", 5), ("exchange", "bank", 0)]
        day_told(day, tidings)
        for call in (reach, hanging):
            call(day, tidings[0]).clear()
            self.assertTrue(call(day, tidings[0]))
        self.assertEqual((day == open_day(), tidings), (True, [("leaves", "ann", 5), ("exchange", "bank", 0)]))
        self.assertTrue(hangs_on(day, ("ann", 0, "arrives")))
        self.assertIsInstance(Counter("a", "b"), Counter)
        with self.assertRaises(BadPart):
            day_told(day, {})


if __name__ == "__main__":
    unittest.main()
