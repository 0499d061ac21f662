"""[3] (j), [14] (longer spans), [46]: means that keep targets, and menus of easings."""
import itertools
import random
import sys
import unittest
from pathlib import Path

sys.path.insert(0, str(Path(__file__).parent))

from byhand import ByHand, known, some_days, worked
from checks import NO_COUNTS, NO_LISTS, NO_NAMES, ODD, Promises
from risingday.counters import Counter
from risingday.days import Day, changed_by
from risingday.errors import BadIndex, BadKey, BadMenu, BadName, BadPart, Ring
from risingday.hours import Hours
from risingday.means import (eased, greatest_notice, greatest_quorum, keeps, least_desks, least_longer, least_picks)
from risingday.meetings import Meeting
from risingday.needs import shortest_ring
from risingday.people import Person
from risingday.places import Ways
from risingday.rising import steady
from risingday.rooms import Room
from test_days import NO_ERRAND_KEYS, told
from test_keys import NO_DAYS, NO_MOMENT_KEYS
from test_moments import open_day
from test_needs import at_one_place

KEY = ("bo", 1, "ends")
TARGETS = [(KEY, 60)]
NO_TARGETS = [*NO_LISTS, [], (), [(KEY, 60)] * 21, [KEY], [KEY, 60], [[KEY, 60]], [(KEY,)], [(KEY, 60, 0)], [(60, KEY)], [None],
              *[[(KEY, 60), (wrong, 60)] for wrong in NO_MOMENT_KEYS], *[[(KEY, wrong)] for wrong in NO_COUNTS]]


def kept_by_hand(day, targets):
    values = worked(day)
    return all(known(values[key]) <= limit for key, limit in targets)


def some_targets(chance, day, most=3):
    """Targets of which some are hard to keep."""
    values = worked(day)
    found = []
    for key in chance.sample(list(values), min(len(values), chance.randrange(1, most + 1))):
        value = values[key]
        found.append((key, chance.randrange(80) if value is None else max(0, value - chance.choice([0, 0, 1, 3, 9]))))
    return found


def days_to_ease(many, people=4, errands=2, start=0):
    """Days with targets that some easing may help to keep."""
    chance = random.Random(start)
    days = [day for day in some_days(many, people, errands, start=start) if day.all_keys()]
    return [(day, some_targets(chance, day)) for day in days]


def counter_guest_and_meeting():
    """Ann and bo stand at the till, cy is a guest whom di waits for, and three wait for each other."""
    people = [Person("ann", "inn", 0, [("counter", "till", 10), ("meet", "talk")]),
              Person("bo", "inn", 0, [("counter", "till", 10), ("meet", "talk")]),
              Person("cy", "inn", 0, [("room", "bath", 50), ("meet", "talk")]),
              Person("di", "inn", 5, [("room", "bath", 8)])]
    return Day(people, None, [Counter("till", "inn", 1, Hours([(0, 12), (15, 30), (40, 99)]), [("ann", 0), ("bo", 0)]),
                              Counter("desk", "inn", 2)],
               [Meeting("talk", "inn", 0, 5, 3)], [Room("bath", "inn", 2, [("cy", 0), ("di", 0)], {("cy", 0): 20})])


class Keeps(Promises):
    def test_by_hand(self):
        seen = set()
        for day, targets in days_to_ease(60):
            found = keeps(day, targets)
            self.assertIs(found, kept_by_hand(day, targets))
            self.assertIs(keeps(day=day, targets=tuple(targets)), found)
            seen.add(found)
        self.assertEqual(seen, {True, False})

    def test_the_edges(self):
        day = at_one_place({"ann": [("counter", "till", 10)], "bo": [("counter", "till", 10)]})
        key = ("bo", 0, "ends")
        self.assertEqual([keeps(day, [(key, limit)]) for limit in (0, 19, 20, 21, 10 ** 19)], [False, False, True, True, True])
        self.assertIs(keeps(day, [(key, 20)] * 20), True)
        self.assertIs(keeps(day, [(key, 20), (key, 19)]), False)
        closed = changed_by(day, ("hours", "till", Hours([])))
        self.assertIs(keeps(closed, [(key, 10 ** 19)]), False)

    def test_refusals(self):
        self.refuses_part("targets", NO_TARGETS, lambda targets: keeps(open_day(), targets))


class Numbers(Promises):
    def test_desks_and_quorums(self):
        found = set()
        for day, targets in days_to_ease(110):
            for counter in day.all_counters():
                good = [desks for desks in (1, 2, 3) if kept_by_hand(changed_by(day, ("desks", counter.name, desks)), targets)]
                answer = least_desks(day, counter.name, targets)
                self.assertEqual(answer, min(good, default=None))
                self.assertTrue(good == [] or good == list(range(answer, 4)))
                found.add(("desks", answer))
            for meeting in day.all_meetings():
                many = len([key for key in day.all_keys() if day.the_errand(key) == ("meet", meeting.name)])
                good = [quorum for quorum in range(1, many + 1)
                        if kept_by_hand(changed_by(day, ("quorum", meeting.name, quorum)), targets)]
                answer = greatest_quorum(day, meeting.name, targets)
                self.assertEqual(answer, max(good, default=None))
                found.add(("quorum", answer))
        self.assertTrue({("desks", None), ("desks", 1), ("desks", 2), ("quorum", None), ("quorum", 1), ("quorum", 2)} <= found)

    def test_notices(self):
        found = set()
        for day, targets in days_to_ease(55, 5, 3, start=300):
            for place, key in enumerate([key for key in day.all_keys() if day.notice_of(key) is not None]):
                if not day.is_early(key) and place > 0:
                    continue
                end = worked(day)[(*key, "ends")]
                if place % 2 == 0 and end is not None:
                    targets = [((*key, "ends"), end + place)]
                answer = greatest_notice(day, key, targets)
                found.add("none" if answer is None else "all" if answer == 600 else "some")
                for notice in [*range(0, 40), 599, 600, *([answer, min(600, answer + 1)] if answer is not None else [])]:
                    kept = kept_by_hand(changed_by(day, ("notice", key, notice)), targets)
                    self.assertIs(kept, answer is not None and notice <= answer)
        self.assertEqual(found, {"none", "some", "all"})

    def test_longer_spans(self):
        found = set()
        for day, targets in days_to_ease(100, start=600):
            for counter in day.all_counters():
                for index in range(len(counter.hours.spans() or [])):
                    answer = least_longer(day, counter.name, index, targets)
                    found.add("none" if answer is None else "some" if answer else "nought")
                    for more in [*range(0, 50, 3), 9998, 9999, *([answer, answer - 1] if answer else [])]:
                        hours = counter.hours.longer(index, more)
                        kept = kept_by_hand(changed_by(day, ("hours", counter.name, hours)), targets)
                        self.assertIs(kept, answer is not None and more >= answer)
        self.assertEqual(found, {"none", "some", "nought"})

    def test_told(self):
        day = counter_guest_and_meeting()
        self.assertEqual([least_desks(day, "till", [(("bo", 0, "ends"), limit)]) for limit in (9, 10, 24, 25)], [None, 2, 2, 1])
        self.assertEqual([greatest_quorum(day, "talk", [(("bo", 1, "ends"), limit)]) for limit in (24, 25, 29, 30, 99)],
                         [None, 1, 1, 3, 3])
        self.assertEqual([greatest_notice(day, ("cy", 0), [(("di", 0, "begins"), limit)]) for limit in (6, 7, 26, 27, 51, 52)],
                         [None, 0, 19, 20, 44, 600])
        self.assertEqual([least_longer(day, "till", 0, [(("bo", 0, "begins"), limit)]) for limit in (9, 10, 12, 14, 15)],
                         [None, 3, 3, 3, 0])
        # Bo begins at 10 if the first span comes to the second one, which ends in time.
        self.assertEqual(changed_by(day, ("hours", "till", Hours([(0, 30), (40, 99)]))).the_counter("till").hours,
                         day.the_counter("till").hours.longer(0, 3))
        wide = changed_by(day, ("n", ("bo", 0), 25))
        self.assertEqual([least_longer(day=wide, counter="till", index=index, targets=[(("bo", 0, "begins"), 15)])
                          for index in (0, 1, 2)], [23, 10, None])

    def test_a_guest_with_none_behind(self):
        day = at_one_place({"ann": [("room", "bath", 5)]}, notices={("ann", 0): 3})
        self.assertEqual(greatest_notice(day=day, key=("ann", 0), targets=[(("ann", 0, "ends"), 5)]), 600)
        self.assertIs(greatest_notice(day, ("ann", 0), [(("ann", 0, "ends"), 4)]), None)

    def test_refusals_in_their_order(self):
        barred = told()
        calls = [lambda day, name, targets: least_desks(day, name, targets),
                 lambda day, name, targets: greatest_quorum(day, name, targets),
                 lambda day, name, targets: least_longer(day, name, 7, targets),
                 lambda day, name, targets: greatest_notice(day, name, targets)]
        for call in calls:
            self.refuses_part("day", NO_DAYS, lambda day: call(day, 5, 5))
            self.refuses(Ring, shortest_ring(barred), call, barred, 5, 5)
        day = open_day()
        for call, here, others in [(calls[0], "bank", ("talk", "bath")), (calls[1], "talk", ("bank", "bath")),
                                   (calls[2], "bank", ("talk", "bath"))]:
            self.refuses_each(BadName, [*NO_NAMES, *others, "zoe", "ann"], lambda name: call(day, name, 5))
        self.refuses_each(BadKey, [*NO_ERRAND_KEYS, ("ann", 0), ("bo", 1), ("ann", 2)], lambda key: greatest_notice(day, key, 5))
        self.refuses_each(BadIndex, [*NO_COUNTS, 1, 2], lambda index: least_longer(day, "bank", index, 5))
        self.refuses_each(BadIndex, [*NO_COUNTS, 0], lambda index: least_longer(day, "till", index, 5))
        self.refuses(BadIndex, 0, least_longer, changed_by(day, ("hours", "till", Hours([]))), "till", 0, 5)
        for targets in NO_TARGETS:
            self.refuses(BadPart, "targets", least_desks, day, "bank", targets)
            self.refuses(BadPart, "targets", greatest_quorum, day, "talk", targets)
            self.refuses(BadPart, "targets", greatest_notice, day, ("ann", 3), targets)
            self.refuses(BadPart, "targets", least_longer, day, "bank", 0, targets)
            self.refuses(BadPart, "targets", least_picks, day, targets, 5)


def some_menu(chance, day):
    """A menu of easings that are let together."""
    values = []
    for _ in range(40):
        key = chance.choice(day.all_keys())
        word, where = day.the_errand(key)[:2]
        n = chance.choice([1, 1, 2, 5])
        value = ("less", key, n)
        if word == "counter":
            value = chance.choice([value, ("desk", where), ("longer", where, chance.randrange(2), n * 4)])
        if word == "meet":
            value = ("quorum", where)
        if word == "room":
            value = chance.choice([value, ("notice", key, n)])
        if eased_by_hand(day, [*values, value], range(len(values) + 1)) is not None:
            values.append(value)
        if len(values) == 5:
            break
    return values


def eased_by_hand(day, menu, picks):
    """The day with these easings, by adding up; None if something goes too far."""
    people = {person.name: list(person.errands) for person in day.persons()}
    desks = {counter.name: counter.desks for counter in day.all_counters()}
    spans = {counter.name: counter.hours.spans() for counter in day.all_counters()}
    quorums = {meeting.name: meeting.quorum for meeting in day.all_meetings()}
    notices = {room.name: room.noticed() for room in day.all_rooms()}
    for value in [menu[index] for index in picks]:
        word, what = value[:2]
        if word == "desk":
            desks[what] += 1
        elif word == "quorum":
            quorums[what] -= 1
        elif word == "notice":
            name = day.the_errand(what)[1]
            if what not in notices[name]:
                return None
            notices[name][what] -= value[2]
        elif word == "less":
            errand = people[what[0]][what[1]]
            people[what[0]][what[1]] = (*errand[:2], errand[2] - value[2])
        else:
            if not spans[what] or value[2] >= len(spans[what]):
                return None
            start, end = spans[what][value[2]]
            spans[what][value[2]] = (start, end + value[3])
    left = [*[errand[2] for row in people.values() for errand in row if errand and errand[0] != "meet"],
            *[quorum - 1 for quorum in quorums.values()], *[3 - many for many in desks.values()],
            *[n for several in notices.values() for n in several.values()]]
    if any(number < 0 for number in left):
        return None
    return Day([Person(person.name, person.home, person.leaves, people[person.name]) for person in day.persons()], day.all_ways(),
               [Counter(counter.name, counter.place, desks[counter.name], Hours(joined(spans[counter.name])), counter.order)
                for counter in day.all_counters()],
               [Meeting(one.name, one.place, one.opens, one.length, quorums[one.name]) for one in day.all_meetings()],
               [Room(room.name, room.place, room.turn, room.order, notices[room.name]) for room in day.all_rooms()])


def joined(spans):
    """Spans as the minutes that they cover; two that touch at no minute stay apart."""
    if spans is None:
        return None
    found = []
    for start, end in spans:
        end = min(9999, end)
        if found and start <= found[-1][1]:
            found[-1] = (found[-1][0], max(end, found[-1][1]))
        else:
            found.append((start, end))
    return found


def easings_of(seed, many, start):
    chance = random.Random(seed)
    for day, targets in days_to_ease(many, 3, 3, start):
        menu = some_menu(chance, day)
        if menu:
            yield day, targets, menu


class Menus(Promises):
    def test_by_hand(self):
        words = set()
        for day, _, menu in easings_of(1, 60, 20):
            words |= {value[0] for value in menu}
            for size in range(len(menu) + 1):
                for picks in itertools.combinations(range(len(menu)), size):
                    self.assertEqual(eased(day, menu, picks), eased_by_hand(day, menu, picks))
        self.assertEqual(words, {"desk", "quorum", "notice", "less", "longer"})

    def test_each_easing(self):
        day = counter_guest_and_meeting()
        menu = [("desk", "till"), ("quorum", "talk"), ("notice", ("cy", 0), 20), ("less", ("cy", 0), 50), ("longer", "till", 1, 600),
                ("longer", "till", 0, 1), ("less", ("di", 0), 1), ("desk", "till")]
        self.assertEqual(eased(day=day, menu=tuple(menu), picks=()), day)
        changes = {0: ("desks", "till", 2), 1: ("quorum", "talk", 2), 2: ("notice", ("cy", 0), 0), 3: ("n", ("cy", 0), 0),
                   4: ("hours", "till", Hours([(0, 12), (15, 630)])), 5: ("hours", "till", Hours([(0, 13), (15, 30), (40, 99)])),
                   6: ("n", ("di", 0), 7), 7: ("desks", "till", 2)}
        for index, setting in changes.items():
            self.assertEqual(eased(day, menu, (index,)), changed_by(day, setting))
        self.assertEqual(eased(day, menu, (0, 7)), changed_by(day, ("desks", "till", 3)))

    def test_easings_of_one_thing_add_up(self):
        day = counter_guest_and_meeting()
        menu = [("quorum", "talk"), ("quorum", "talk"), ("notice", ("cy", 0), 15), ("notice", ("cy", 0), 5), ("less", ("ann", 0), 9),
                ("less", ("ann", 0), 1), ("longer", "till", 0, 2), ("longer", "till", 0, 1)]
        self.assertEqual(eased(day, menu, (0, 1)), changed_by(day, ("quorum", "talk", 1)))
        self.assertEqual(eased(day, menu, (2, 3)), changed_by(day, ("notice", ("cy", 0), 0)))
        self.assertEqual(eased(day, menu, (4, 5)), changed_by(day, ("n", ("ann", 0), 0)))
        self.assertEqual(eased(day, menu, (6, 7)), changed_by(day, ("hours", "till", Hours([(0, 30), (40, 99)]))))
        self.assertEqual(eased(day, menu, (6,)), changed_by(day, ("hours", "till", Hours([(0, 14), (15, 30), (40, 99)]))))

    def test_spans_are_joined_when_all_are_longer(self):
        day = counter_guest_and_meeting()
        menu = [("longer", "till", 0, 18), ("longer", "till", 1, 9), ("longer", "till", 0, 10), ("longer", "till", 2, 600), ("longer", "till", 1, 1)]
        for picks, spans in [((0,), [(0, 30), (40, 99)]), ((0, 1), [(0, 39), (40, 99)]), ((0, 2), [(0, 99)]), ((1, 4), [(0, 12), (15, 99)]),
                             ((2,), [(0, 30), (40, 99)]), ((0, 1, 4), [(0, 99)]), ((2, 3), [(0, 30), (40, 699)]), ((1, 2), [(0, 39), (40, 99)])]:
            self.assertEqual(eased(day, menu, picks).the_counter("till").hours, Hours(spans), picks)
        late = changed_by(day, ("hours", "till", Hours([(0, 9700), (9990, 9995)])))
        menu = [("longer", "till", 0, 200), ("longer", "till", 1, 600), ("longer", "till", 0, 89), ("longer", "till", 0, 1)]
        self.assertEqual(eased(late, menu, (1,)).the_counter("till").hours, Hours([(0, 9700), (9990, 9999)]))
        self.assertEqual(eased(late, menu, (0, 1, 2)).the_counter("till").hours, Hours([(0, 9989), (9990, 9999)]))
        self.assertEqual(eased(late, menu, (0, 2, 3)).the_counter("till").hours, Hours([(0, 9995)]))

    def test_what_is_no_easing_or_is_not_let(self):
        day = counter_guest_and_meeting()
        good = ("desk", "till")
        wrong = [*ODD, None, 5, (), [], ("desk",), ["desk", "till"], ("desk", "till", 1), ("desks", "till"), ("desk", "talk"), ("desk", "zoe"),
                 ("desk", ["till"]), ("quorum", "till"), ("quorum", "talk", 1), ("notice", ("cy", 0)), ("notice", ("di", 0), 1),
                 ("notice", ("cy", 0), 21), ("notice", "cy", 1), ("less", ("cy", 0), 51), ("less", ("cy", 1), 1), ("less", ("zoe", 0), 1),
                 ("less", ("cy", False), 1), ("longer", "till", 0), ("longer", "till", 3, 1), ("longer", "till", -1, 1), ("longer", "till", True, 1),
                 ("longer", "desk", 0, 1), ("longer", "talk", 0, 1), (b"desk", "till"), (None, "till"), (["desk"], "till"), ({}, "till"), ("longer", "till", 0, 1, 1)]
        for n in [*NO_COUNTS, 0, 601]:
            wrong += [("notice", ("cy", 0), n), ("less", ("cy", 0), n), ("longer", "till", 0, n)]
        for value in wrong:
            self.refuses(BadMenu, 0, eased, day, [value], 5)
            self.refuses(BadMenu, 1, eased, day, [good, value, None], 5)
            self.refuses(BadMenu, 1, least_picks, day, [(("bo", 0, "ends"), 9)], (good, value))
        for menu, index in [([good] * 3, 2), ([("desk", "desk")] * 2, 1), ([("quorum", "talk")] * 3, 2),
                            ([("notice", ("cy", 0), 15), good, ("notice", ("cy", 0), 6)], 2),
                            ([("less", ("di", 0), 8), ("less", ("di", 0), 1)], 1), ([("less", ("di", 0), 8), ("less", ("ann", 0), 8), None], 2)]:
            self.refuses(BadMenu, index, eased, day, menu, ())
        self.assertEqual(len(eased(day, [("longer", "till", 2, 600)] * 8, (0, 1, 2, 3, 4, 5, 6, 7)).the_counter("till").hours.spans()), 3)

    def test_menus_and_picks(self):
        day = counter_guest_and_meeting()
        menu = [("desk", "till"), ("quorum", "talk"), ("less", ("cy", 0), 1)]
        self.refuses_part("menu", [*NO_LISTS, [], (), [("less", ("cy", 0), 1)] * 9, [None] * 9], lambda value: eased(day, value, 5))
        self.refuses_part("menu", [*NO_LISTS, [], (), [None] * 9], lambda value: least_picks(day, [(("bo", 0, "ends"), 9)], value))
        self.refuses_part("picks", [*ODD, None, 5, [], [0], {}, (3,), (-1,), (True,), (None,), (0, 0), (1, 0), (0, 1, 3), ((0,),), ("0",), (0, False)],
                          lambda picks: eased(day, menu, picks))

    def test_days(self):
        for call in (lambda day: eased(day, 5, 5), lambda day: keeps(day, 5), lambda day: least_picks(day, 5, 5)):
            self.refuses_part("day", NO_DAYS, call)
            self.refuses(Ring, shortest_ring(told()), call, told())


class LeastPicks(Promises):
    def test_against_trying_all_picks(self):
        sizes = set()
        for day, targets, menu in easings_of(2, 120, 900):
            every = [picks for size in range(len(menu) + 1) for picks in itertools.combinations(range(len(menu)), size)]
            good = [picks for picks in every if kept_by_hand(eased_by_hand(day, menu, picks), targets)]
            least = [picks for picks in good if not any(set(other) < set(picks) for other in good)]
            found = least_picks(day, targets, menu)
            self.assertEqual(found, least)
            # All greater picks keep the targets, too.
            self.assertEqual(good, [picks for picks in every if any(set(other) <= set(picks) for other in found)])
            sizes.add((len(found), max(map(len, found), default=None)))
        self.assertTrue({(0, None), (1, 0), (1, 1)} <= sizes)
        self.assertTrue(any(many > 1 for many, _ in sizes) and any(most is not None and most > 1 for _, most in sizes), sizes)

    def test_the_example(self):
        people = [Person(name, "hall", 0, [("counter", "till", 10)]) for name in ("a", "b")]
        day = Day(people, None, [Counter("till", "hall", 1, None, [("a", 0), ("b", 0)])])
        menu = [("desk", "till"), ("less", ("a", 0), 5), ("less", ("b", 0), 4)]
        target = ("b", 0, "ends")
        self.assertEqual(worked(day)[target], 20)
        self.assertEqual(least_picks(day=day, targets=[(target, 15)], menu=menu), [(0,), (1,)])
        self.assertEqual(worked(eased(day, menu, (2,)))[target], 16)
        self.assertEqual(least_picks(day, [(target, 20)], menu), [()])
        self.assertEqual(least_picks(day, [(target, 5)], menu), [])
        self.assertEqual(least_picks(day, [(target, 6)], menu), [(0, 2)])
        self.assertEqual(least_picks(day, ((target, 11),), tuple(menu)), [(0,), (1, 2)])
        self.assertEqual(least_picks(day, [(target, 15), (("a", 0, "ends"), 8)], menu), [(1,)])

    def test_what_is_handed_in_stays(self):
        day = counter_guest_and_meeting()
        menu = [("longer", "till", 0, 3), ("longer", "till", 0, 4)]
        targets = [(("bo", 0, "begins"), 11)]
        first = least_picks(day, targets, menu)
        first.clear()
        self.assertEqual(least_picks(day, targets, menu), [(0,), (1,)])
        self.assertEqual((menu, targets), ([("longer", "till", 0, 3), ("longer", "till", 0, 4)], [(("bo", 0, "begins"), 11)]))
        self.assertEqual(day, counter_guest_and_meeting())
        self.assertEqual(len(ByHand(day).moments), 21)
        self.assertEqual(Ways({("a", "b"): steady(1)}).pairs(), [("a", "b")])


if __name__ == "__main__":
    unittest.main()
