"""[1], [3], [9]: what is promised over the whole program."""
import copy
import random
import sys
import unittest
from pathlib import Path

sys.path.insert(0, str(Path(__file__).parent))

from byhand import ByHand, known, some_day, some_days, worked
from checks import Promises
from risingday import (above, alike, arrivalpapers, arrivals, bearing, below, chains, days, errors, hours, keys, late,
                       latepapers, live, meanpapers, means, minutes, moments, needs, nth, places, rising, rooms, rules,
                       shifts, summaries, sumpapers, things, tidings)
from risingday.counters import Counter
from risingday.days import Day, changed_by
from risingday.errors import Ring
from risingday.hours import Hours
from risingday.meetings import Meeting
from risingday.people import Person
from risingday.places import Ways
from risingday.rising import Rising, since, stay, steady, until
from risingday.rooms import Room
from test_means import counter_guest_and_meeting
from test_tidings import some_tiding


def standing_row(chance, day):
    """A row of all moments, each behind all that it needs."""
    hand, row = ByHand(day), []
    while len(row) < len(hand.moments):
        row.append(chance.choice([key for key in hand.moments if key not in row and set(hand.needs(key)) <= set(row)]))
    return row


def greater_settings(chance, day):
    """Settings of each kind that tell something greater, or less time for it."""
    found = [("leaves", person.name, person.leaves + chance.choice([1, 5, 30])) for person in day.persons()]
    for key in day.all_keys():
        errand = day.the_errand(key)
        if len(errand) == 3:
            found.append(("n", key, errand[2] + chance.choice([1, 4])))
        if day.notice_of(key) is not None:
            found.append(("notice", key, day.notice_of(key) + chance.choice([1, 4])))
    for counter in day.all_counters():
        if counter.desks > 1:
            found.append(("desks", counter.name, counter.desks - 1))
        spans = counter.hours.spans()
        found.append(("hours", counter.name, Hours([(5, 40), (44, 90)] if spans is None else [
            (start + chance.randrange(2), end) if start < end else (start, end) for start, end in spans[chance.randrange(2):]])))
    for meeting in day.all_meetings():
        found += [("opens", meeting.name, meeting.opens + 7), ("length", meeting.name, meeting.length + 3)]
        if meeting.quorum < len([key for key in day.all_keys() if day.the_errand(key) == ("meet", meeting.name)]):
            found.append(("quorum", meeting.name, meeting.quorum + 1))
    found += [("turn", room.name, room.turn + 2) for room in day.all_rooms()]
    for pair in day.all_ways().pairs():
        leg = day.all_ways().leg(*pair)
        found.append(("way", pair, chance.choice([leg >> steady(1), leg | since(30), leg >> until(50), leg.later(3)])))
    return found


class Rise(Promises):
    def test_nothing_is_less_behind_what_is_greater(self):
        chance = random.Random(1)
        seen = {}
        for day in some_days(60, 4, 3):
            values = moments.moments(day)
            for setting in greater_settings(chance, day):
                others = moments.moments(changed_by(day, setting))
                self.assertTrue(all(known(others[key]) >= known(value) for key, value in values.items()), setting)
                seen.setdefault(setting[0], set()).add(others != values)
            for thing in things.things_of(day):
                others = things.late_moments(day, {thing: chance.choice([1, 9])})
                self.assertTrue(all(known(others[key]) >= known(value) for key, value in values.items()), thing)
        for word, ways in seen.items():
            self.assertEqual(ways, {True, False}, word)
        self.assertEqual(set(seen), {"leaves", "n", "notice", "desks", "hours", "opens", "length", "quorum", "turn", "way"})

    def test_rows_of_greater_things(self):
        chance = random.Random(2)
        for day in some_days(25, 3, 3, start=100):
            values = worked(day)
            for _ in range(6):
                settings = greater_settings(chance, day)
                if not settings:
                    break
                day = changed_by(day, chance.choice(settings)) if not self.goes_too_far(day, settings) else day
                others = worked(day)
                self.assertEqual(moments.moments(day), others)
                self.assertTrue(all(known(others[key]) >= known(value) for key, value in values.items()))
                values = others

    def goes_too_far(self, day, settings):
        return any(person.leaves > 9900 for person in day.persons()) or not settings


class OneRoad(Promises):
    def test_all_roads_lead_to_the_same_moments(self):
        chance = random.Random(3)
        plain = 0
        for day in [*some_days(30, 3, 3, start=200), *some_days(15, 3, 2, plain=True, start=900)]:
            values = moments.moments(day)
            self.assertEqual(values, worked(day))
            self.assertEqual(minutes.moments_by_play(day), values)
            for _ in range(3):
                row = standing_row(chance, day)
                self.assertEqual(moments.along(day, row), {key: values[key] for key in row})
            table = {}
            for _ in range(chains.depth(day)):
                table = below.round_below(day, table)
            self.assertEqual(table, values)
            for key in chance.sample(list(values), min(4, len(values))):
                number, under, over = above.exact_paper(day, key)
                self.assertEqual(number, values[key])
                self.assertIs(below.shows_at_least(day, key, number, under), True)
                self.assertIs(above.shows_at_most(day, key, number, over), True)
                if moments.is_plain(day):
                    plain += 1
                    self.assertEqual(chains.chain_numbers(day, chains.chain_of(day, key))[-1], number)
            if moments.is_plain(day):
                self.assertEqual(summaries.Summary(day).given({person.name: person.leaves for person in day.persons()}), values)
        self.assertGreater(plain, 20)

    def test_barred_days_are_told_with_a_ring(self):
        barred = [day for day in (some_day(seed, 4, 4, wild=True) for seed in range(150)) if needs.is_barred(day)]
        self.assertGreater(len(barred), 20)
        for day in barred:
            ring = needs.shortest_ring(day)
            for place, key in enumerate(ring):
                self.assertIn(ring[(place + 1) % len(ring)], needs.needs_of(day, key))
            for call in (moments.moments, minutes.happenings, live.Live, needs.row_of_needs, chains.depth):
                self.refuses(Ring, ring, call, day)

    def test_a_live_day_is_the_day_of_what_was_told(self):
        chance = random.Random(4)
        for day in some_days(15, 3, 3, start=300):
            lived = live.Live(day)
            for _ in range(8):
                if not lived.now().all_keys():
                    break
                tiding = some_tiding(chance, lived.now())
                if tidings.is_tiding(lived.now(), tiding) and not tidings.comes_late(lived.now(), tiding, lived.clock()):
                    lived.tell(tiding)
                elif chance.random() < 0.3:
                    lived.wait(lived.clock() + 2)
            told = tidings.day_told(day, [tiding for _, tiding in lived.tidings()])
            self.assertEqual(lived.now(), told)
            self.assertEqual({key: lived.moment(key) for key in keys.moment_keys(told)}, worked(told))


DAY = counter_guest_and_meeting()
PLAIN = Day([Person("ann", "inn", 0, [("counter", "bank", 10)]), Person("bob", "hut", 0, [("counter", "bank", 4)])],
            Ways({("inn", "hall"): steady(5), ("hut", "hall"): steady(3)}), [Counter("bank", "hall", order=[("ann", 0), ("bob", 0)])])
LONGER = changed_by(PLAIN, ("n", ("ann", 0), 12))
QUEUE = arrivals.Queue(2, Hours(), [(0, 2), (0, 9), (1, 9), (2, 3), (4, 1)])
SPACED = arrivals.Queue(2, Hours(), [(5, 4), (0, 4), (1, 4)])
BUSY = arrivals.Queue(1, Hours(), [(5, 4), (0, 9)])
BO, DI, BOB = ("bo", 0, "ends"), ("di", 0, "begins"), ("bob", 0, "ends")
LATE = [(("leaves", "ann"), 5), (("end", ("bo", 0)), 2)]
MENU = [("desk", "till"), ("less", ("ann", 0), 5)]
LIVE = live.Live(DAY)
SUMMARY = summaries.Summary(PLAIN)
TIDING = ("n", ("ann", 0), 11)

# One call of each function and method that is handed a list or a dict, or hands one out.
CALLS = [
    (rising.Rising, [(0, 0, True), (5, None, False)]), (rising.greatest_of, [stay(), steady(2)]), (rising.least_of, [stay(), since(2)]),
    (rising.nth_of, [stay(), since(2)], 1), (hours.Hours, [(0, 9), (12, 20)]), (Hours([(0, 9)]).spans,), (nth.greatest, [3, None, 4]),
    (nth.least, [3, 4]), (nth.nth, [3, 4], 2), (nth.needed_below, [3, 7, 4], 2), (nth.needed_above, [3, 7, 4], 2),
    (nth.keeps_below, [3, 7], 1, [0, 1]), (nth.keeps_above, [3, 7], 1, [0]), (nth.desk_free, [3, 9], 1),
    (rules.counter_begin, 3, 2, [5, 9], 1, Hours(), 4), (rules.counter_row, [3, 4], [5, 6], 1, Hours()),
    (rules.meeting_begin, 3, [5, 6], 2), (rules.meeting_row, 3, 5, 2, [5, 6]), (rules.room_row, [3, 4], [5, 6], 1, [2, None]),
    (Person, "ann", "inn", 0, [("stay", "inn", 5), None]), (Person("ann", "inn", 0, [("stay", "inn", 5)]).own_keys,),
    (places.Ways, {("a", "b"): stay()}), (Ways({("a", "b"): stay()}).pairs,), (Counter, "till", "inn", 1, None, [("ann", 0)]),
    (Room, "bath", "inn", 0, [("ann", 0)], {("ann", 0): 4}), (rooms.Room("bath", "inn", 0, [("ann", 0)], {("ann", 0): 4}).noticed,),
    (days.Day, [Person("ann", "inn", 0)], None, [Counter("till", "inn")], [], [Room("bath", "inn")]), (DAY.persons,), (DAY.all_counters,),
    (DAY.all_meetings,), (DAY.all_rooms,), (DAY.all_places,), (DAY.all_keys,), (DAY.at_same, ("ann", 1)), (DAY.at_same, ("ann", 0)),
    (days.changed_by, DAY, ("order", "till", [("bo", 0), ("ann", 0)])), (keys.errand_keys, DAY), (keys.moment_keys, DAY),
    (needs.needs_of, DAY, BO), (needs.rests_on, DAY, BO), (needs.hangs_on, DAY, ("ann", 0, "ends")), (needs.free_keys, DAY), (needs.row_of_needs, DAY),
    (needs.does_stand, DAY, needs.row_of_needs(DAY)), (needs.groups, DAY), (moments.moments, DAY), (moments.free_moments, DAY),
    (moments.along, DAY, needs.row_of_needs(DAY)), (moments.made_by, DAY, BO), (moments.worked_from, DAY, {("ann", 0, "ends"): 12}), (moments.not_plain, DAY),
    (below.is_below, DAY, {("ann", 0, "arrives"): 0}), (below.slim_below, DAY, BO), (below.is_slim_below, DAY, BO, below.slim_below(DAY, BO)),
    (below.shows_at_least, DAY, BO, 5, below.slim_below(DAY, BO)), (below.round_below, DAY, {}), (below.greater_of, DAY, {}, below.slim_below(DAY, BO)),
    (below.best_below, DAY, [BO]), (above.is_above, DAY, {BO: None}), (above.slim_above, DAY, BO), (above.round_above, DAY, {}),
    (above.lesser_of, DAY, {}, above.slim_above(DAY, BO)), (above.best_above, DAY, [BO]), (above.exact_paper, DAY, BO),
    (above.shows_exact, DAY, BO, above.exact_paper(DAY, BO)), (above.limit_paper, DAY, BO, 9), (above.shows_limit, DAY, above.limit_paper(DAY, BO, 9)),
    (chains.chain_of, PLAIN, BOB), (chains.chain_table, PLAIN, (BOB,)), (things.things_of, DAY), (things.late_moments, DAY, {("leaves", "ann"): 5}),
    (bearing.bears_all, DAY, BO, 90), (bearing.critical, DAY, BO, 25), (bearing.dues, PLAIN, BOB, 30), (late.worst, DAY, LATE, 1),
    (late.worst_lot, DAY, LATE, BO, 1), (late.layers, DAY, LATE, 1), (late.is_promise, DAY, LATE, BO, 90, 1), (late.bearable, DAY, LATE, BO, 90),
    (latepapers.bearing_paper, PLAIN, ("leaves", "ann"), BOB, 30),
    (latepapers.shows_bearing, PLAIN, ("leaves", "ann"), BOB, 30, latepapers.bearing_paper(PLAIN, ("leaves", "ann"), BOB, 30)),
    (latepapers.worst_paper, PLAIN, [(("leaves", "ann"), 5)], BOB, 1),
    (latepapers.shows_worst, PLAIN, [(("leaves", "ann"), 5)], BOB, 1, latepapers.worst_paper(PLAIN, [(("leaves", "ann"), 5)], BOB, 1)),
    (SUMMARY.moment_keys,), (SUMMARY.names_of, BOB), (SUMMARY.given, {"ann": 0, "bob": 4}), (alike.difference, PLAIN, LONGER), (alike.classes, [PLAIN, LONGER]),
    (sumpapers.table_of, PLAIN), (sumpapers.is_right, PLAIN, sumpapers.table_of(PLAIN)), (sumpapers.is_upper, PLAIN, sumpapers.table_of(LONGER)),
    (sumpapers.is_lower, LONGER, sumpapers.table_of(PLAIN)), (sumpapers.apart_paper, PLAIN, LONGER),
    (sumpapers.accepts_apart, PLAIN, LONGER, sumpapers.apart_paper(PLAIN, LONGER)),
    (arrivals.Queue, 1, Hours(), [(0, 5)]), (QUEUE.tickets,), (QUEUE.begin_list,), (QUEUE.end_list,), (QUEUE.begins_in_row,), (arrivals.by_list, QUEUE, [4, 3, 2, 1, 0]),
    (arrivals.queue_of, DAY, "till"), (arrivals.ticket_day, DAY, "till"), (shifts.steps_of, QUEUE, 0), (shifts.effects, QUEUE, 0, 3), (shifts.gains_of, QUEUE),
    (shifts.spaced_begins, SPACED), (arrivalpapers.busy_paper, BUSY), (arrivalpapers.spaced_paper, SPACED, 1), (arrivalpapers.gains_paper, QUEUE, 4),
    (tidings.day_told, DAY, [TIDING]), (tidings.reach, DAY, TIDING), (tidings.hanging, DAY, TIDING), (tidings.comes_late, DAY, TIDING, 90),
    (means.keeps, DAY, [(BO, 30)]), (means.least_desks, DAY, "till", [(BO, 20)]), (means.greatest_quorum, DAY, "talk", [(BO, 90)]),
    (means.greatest_notice, DAY, ("cy", 0), [(DI, 30)]), (means.least_longer, DAY, "till", 0, [(BO, 22)]), (means.eased, DAY, MENU, (0,)),
    (means.least_picks, DAY, [(BO, 20)], MENU), (meanpapers.means_paper, DAY, [(BO, 20)], MENU),
    (meanpapers.accepts_means, DAY, [(BO, 20)], MENU, meanpapers.means_paper(DAY, [(BO, 20)], MENU)), (minutes.happenings, DAY),
    (minutes.is_happenings, DAY, minutes.happenings(DAY)), (minutes.moments_by_play, DAY), (minutes.never_ones, DAY), (minutes.there, DAY, "inn", 3),
    (minutes.waiting_at, DAY, "till", 3), (minutes.served_at, DAY, "till", 3), (LIVE.promises,), (LIVE.happened,), (LIVE.coming,), (LIVE.broken,), (LIVE.tidings,),
    (LIVE.would_break, TIDING),
]


def spoil(value):
    """Changes all lists and dicts in a value."""
    if isinstance(value, (list, tuple)):
        for part in value:
            spoil(part)
    if isinstance(value, dict):
        for part in [*value, *value.values()]:
            spoil(part)
    if isinstance(value, list):
        value.append("spoiled")
        value.reverse()
    if isinstance(value, dict):
        value["spoiled"] = "spoiled"


class Kept(Promises):
    def test_what_is_handed_in_stays_and_may_be_changed_later(self):
        for call, *told in CALLS:
            with self.subTest(call=call):
                told = [copy.deepcopy(part) if isinstance(part, (list, dict, tuple)) else part for part in told]
                before = copy.deepcopy(told)
                first = call(*told)
                self.assertEqual(told, before)
                again = call(*copy.deepcopy(before))
                spoil(told)
                self.assertEqual(first, again)

    def test_what_is_handed_out_may_be_changed(self):
        for call, *told in CALLS:
            with self.subTest(call=call):
                first = call(*copy.deepcopy(told))
                kept = copy.deepcopy(first)
                spoil(first)
                self.assertEqual(call(*copy.deepcopy(told)), kept)

    def test_the_days_themselves_are_as_they_were(self):
        self.assertEqual(DAY, counter_guest_and_meeting())
        self.assertEqual((LIVE.now(), LIVE.steps()), (DAY, 0))
        self.assertEqual(LONGER, changed_by(PLAIN, ("n", ("ann", 0), 12)))

    def test_nothing_is_iterated_but_lists_and_dicts(self):
        for thing in [stay(), Hours([(0, 9)]), Person("ann", "inn", 0), Ways(), Counter("till", "inn"), Meeting("talk", "inn", 0, 0), Room("bath", "inn"),
                      DAY, SUMMARY, QUEUE, LIVE]:
            self.cannot_be_iterated(thing)

    def test_errors(self):
        self.assertEqual(len([name for name in vars(errors) if name[0].isupper()]), 21)


if __name__ == "__main__":
    unittest.main()
