"""[2]: names and parameters of the interface, each defined in the file under which it stands."""
import importlib
import inspect
import unittest

FUNCTIONS = {
    "days": ["changed_by(day, setting)"],
    "keys": ["is_errand_key(day, value)", "is_moment_key(day, value)", "errand_keys(day)", "moment_keys(day)",
             "key_place(day, key)"],
    "needs": ["needs_of(day, key)", "rests_on(day, key)", "hangs_on(day, key)", "does_rest(day, key, other)",
              "shortest_ring(day)", "is_barred(day)", "free_keys(day)", "row_of_needs(day)", "does_stand(day, value)",
              "groups(day)"],
    "moments": ["moments(day)", "free_moments(day)", "moment(day, key)", "along(day, row)", "made_by(day, key)",
                "worked_from(day, table)", "is_plain(day)", "not_plain(day)"],
    "below": ["is_below(day, table)", "shows_at_least(day, key, number, table)", "slim_below(day, key)",
              "is_slim_below(day, key, table)", "round_below(day, table)", "greater_of(day, one, other)",
              "best_below(day, keys)"],
    "above": ["is_above(day, table)", "shows_at_most(day, key, number, table)", "slim_above(day, key)",
              "is_slim_above(day, key, table)", "round_above(day, table)", "lesser_of(day, one, other)",
              "best_above(day, keys)", "exact_paper(day, key)", "shows_exact(day, key, paper)",
              "limit_paper(day, key, limit)", "shows_limit(day, paper)"],
    "chains": ["depth(day)", "is_chain(day, chain)", "chain_numbers(day, chain)", "chain_table(day, chain)",
               "chain_of(day, key)", "shows_chain(day, key, number, chain)"],
    "things": ["things_of(day)", "value_of(day, thing)", "is_thing(day, value)", "late_moments(day, lateness)"],
    "bearing": ["bears(day, thing, key, minute)", "bears_all(day, key, minute)", "critical(day, key, minute)",
                "dues(day, key, minute)"],
    "late": ["worst(day, late, most)", "worst_lot(day, late, key, most)", "layers(day, late, most)",
             "is_promise(day, late, key, minute, most)", "bearable(day, late, key, minute)"],
    "latepapers": ["bearing_paper(day, thing, key, minute)", "shows_bearing(day, thing, key, minute, value)",
                   "worst_paper(day, late, key, most)", "shows_worst(day, late, key, most, value)"],
    "alike": ["alike(one, other, *, least=0)", "difference(one, other, *, least=0)", "classes(days)"],
    "sumpapers": ["table_of(day)", "is_right(day, table)", "is_upper(day, table)", "is_lower(day, table)",
                  "apart_paper(one, other)", "accepts_apart(one, other, paper)"],
    "arrivals": ["is_before(queue, one, other)", "by_list(queue, order)", "queue_of(day, name)", "ticket_day(day, name)"],
    "shifts": ["own_map(queue, index)", "latest_arrival(queue, index, minute)", "steps_of(queue, index)",
               "effects(queue, index, arrival)", "best_later(queue, index, who)", "gains_of(queue)",
               "spaced_begins(queue)", "busy_end(queue)"],
    "arrivalpapers": ["busy_paper(queue)", "spaced_paper(queue, j)", "gains_paper(queue, who)", "shown_by(queue, value)",
                      "lets_gains(queue, value)"],
    "tidings": ["is_tiding(day, value)", "day_behind(day, tiding)", "day_told(day, tidings)", "direction(day, tiding)",
                "reach(day, tiding)", "hanging(day, tiding)", "comes_late(day, tiding, minute)",
                "are_apart(day, one, other)"],
    "means": ["keeps(day, targets)", "least_desks(day, counter, targets)", "greatest_quorum(day, meeting, targets)",
              "greatest_notice(day, key, targets)", "least_longer(day, counter, index, targets)", "eased(day, menu, picks)",
              "least_picks(day, targets, menu)"],
    "meanpapers": ["means_paper(day, targets, menu)", "accepts_means(day, targets, menu, value)"],
    "minutes": ["happenings(day)", "is_happenings(day, value)", "moments_by_play(day)", "never_ones(day)", "last_minute(day)",
                "state_of(day, name, minute)", "there(day, place, minute)", "waiting_at(day, name, minute)",
                "served_at(day, name, minute)", "longest_wait_row(day, name)"],
    "texts": ["write_day(day)", "read_day(text)", "write_key(key)", "read_key(text)", "write_tiding(tiding)", "read_tiding(text)"],
    "rising": ["stay()", "steady(minutes)", "since(minute)", "until(minute)", "nowhere()", "greatest_of(maps)", "least_of(maps)",
               "nth_of(maps, number)", "first_unlike(one, other)", "first_above(one, other)"],
    "slots": ["by_slots(length, slots, *, last=None)", "ride(length, slots, minute)", "set_out(length, slots, minute, *, last=None)"],
    "hours": ["is_hours(value)", "witness(one, other)"],
    "nth": ["is_moment(value)", "is_earlier(one, other)", "later_by(moment, more)", "greatest(moments)", "least(moments)",
            "nth(moments, n)", "needed_below(moments, n)", "needed_above(moments, n)", "keeps_below(moments, n, places)",
            "keeps_above(moments, n, places)", "desk_free(ends, desks)"],
    "rules": ["counter_begin(arrival, begin_ahead, ends_ahead, desks, hours, n)", "counter_row(arrivals, lengths, desks, hours)",
              "meeting_begin(opens, arrivals, quorum)", "meeting_end(begin, length, arrival)",
              "meeting_row(opens, length, quorum, arrivals)", "room_begin(arrival, end_ahead, turn)", "room_end(begin, n)",
              "guest_end(begin, n, notice, behind)", "room_row(arrivals, lengths, turn, notices)"],
    "people": ["is_errand(value)"],
    "counters": ["is_key(value)", "is_order(value)"],
}
CLASSES = {
    ("days", "Day"): ["__init__(self, people=(), ways=None, counters=(), meetings=(), rooms=())", "__eq__(self, other)",
                      "persons(self)", "all_ways(self)", "all_counters(self)", "all_meetings(self)", "all_rooms(self)",
                      "all_places(self)", "the_person(self, name)", "the_counter(self, name)", "the_meeting(self, name)",
                      "the_room(self, name)", "all_keys(self)", "the_errand(self, key)", "place_of(self, key)",
                      "key_ahead(self, key)", "place_ahead(self, key)", "leg_of(self, key)", "at_same(self, key)",
                      "next_behind(self, key)", "notice_of(self, key)", "is_early(self, key)"],
    ("summaries", "Summary"): ["__init__(self, day)", "__eq__(self, other)", "moment_keys(self)", "number_of(self, key)",
                               "names_of(self, key)", "map_of(self, key, name)", "base_of(self, key, *, least=0)",
                               "line_of(self, key, name, *, least=0)", "given(self, leaves)",
                               "does_count(self, key, name)", "free_minute(self, key, name)",
                               "latest(self, key, name, limit)", "latest_of_all(self, key, limit)"],
    ("arrivals", "Queue"): ["__init__(self, desks, hours, callers)", "__eq__(self, other)", "__len__(self)", "tickets(self)",
                            "begin_list(self)", "end_list(self)", "last_end(self)", "begins_in_row(self)",
                            "arrived(self, index, arrival)", "without(self, index)", "lasting(self, index, n)"],
    ("live", "Live"): ["__init__(self, day)", "__eq__(self, other)", "now(self)", "clock(self)", "promises(self)", "moment(self, key)",
                       "happened(self)", "coming(self)", "tell(self, tiding)", "would_break(self, tiding)", "wait(self, minute)",
                       "promise(self, key, minute)", "withdraw(self, key)", "broken(self)", "breaking_paper(self, key)",
                       "undo(self)", "redo(self)", "steps(self)", "tidings(self)", "attempt(self, deed)", "trial(self)",
                       "twin(self)"],
    ("console", "Console"): ["__init__(self)", "run(self, line)"],
    ("rising", "Rising"): ["__init__(self, rows)", "__call__(self, minute)", "__len__(self)", "__eq__(self, other)",
                           "__le__(self, other)", "__rshift__(self, other)", "__or__(self, other)", "__and__(self, other)",
                           "back(self, minute)", "last(self)", "later(self, minutes)"],
    ("hours", "Hours"): ["__init__(self, spans=None)", "__eq__(self, other)", "__le__(self, other)", "spans(self)", "gate(self, n, t)",
                         "is_let(self, n, t)", "gate_map(self, n)", "longer(self, index, more)"],
    ("people", "Person"): ["__init__(self, name, home, leaves, errands=())", "__eq__(self, other)", "own_keys(self)",
                           "leaving_at(self, minute)", "with_errand(self, index, errand)"],
    ("places", "Ways"): ["__init__(self, legs=None)", "__eq__(self, other)", "pairs(self)", "leg(self, start, goal)",
                         "with_way(self, pair, rising)"],
    ("counters", "Counter"): ["__init__(self, name, place, desks=1, hours=None, order=())", "__eq__(self, other)"],
    ("meetings", "Meeting"): ["__init__(self, name, place, opens, length, quorum=1)", "__eq__(self, other)"],
    ("rooms", "Room"): ["__init__(self, name, place, turn=0, order=(), notices=None)", "__eq__(self, other)", "noticed(self)"],
}


class Interface(unittest.TestCase):
    def is_as_told(self, found, head, module):
        self.assertTrue(inspect.isfunction(found), head)
        self.assertEqual(found.__module__, f"risingday.{module}")
        self.assertEqual(f"{found.__name__}{inspect.signature(found)}", head)

    def test_functions(self):
        for module, heads in FUNCTIONS.items():
            for head in heads:
                self.is_as_told(getattr(importlib.import_module(f"risingday.{module}"), head.split("(")[0]), head, module)

    def test_methods_stand_in_their_classes(self):
        for (module, name), heads in CLASSES.items():
            own = getattr(importlib.import_module(f"risingday.{module}"), name)
            self.assertEqual(own.__module__, f"risingday.{module}")
            for head in heads:
                self.is_as_told(vars(own)[head.split("(")[0]], head, module)


if __name__ == "__main__":
    unittest.main()
