"""[3] (k), [26], [42], [44], [50], [51], [52]: live days."""
import random
import sys
import unittest
from pathlib import Path

sys.path.insert(0, str(Path(__file__).parent))

from byhand import known, some_days, worked
from checks import NO_COUNTS, ODD, Promises
from risingday.below import shows_at_least, slim_below
from risingday.days import Day, changed_by
from risingday.errors import (BadKey, BadNumber, BadTiding, DayError, Fixed, NothingToUndo, NotSo, Promised,
                              Ring)
from risingday.hours import Hours
from risingday.live import Live
from risingday.needs import shortest_ring
from risingday.tidings import comes_late, day_told
from test_days import told
from test_keys import NO_DAYS, NO_MOMENT_KEYS
from test_moments import open_day
from test_needs import at_one_place
from test_tidings import behind_by_hand, some_tiding

ANN, BO = ("ann", 0, "ends"), ("bo", 0, "ends")
NO_CLOCKS = [*NO_COUNTS, 10 ** 6 + 1]


def till_day():
    """Ann is at the till from 0 to 10, bo behind her until 14; cy stays for himself."""
    return at_one_place({"ann": [("counter", "till", 10)], "bo": [("counter", "till", 4)], "cy": [("stay", "inn", 30)]})


def seen(live):
    """All that can be asked of a live day."""
    return (live.now(), live.clock(), live.promises(), live.happened(), live.coming(), live.broken(), live.steps(), live.tidings())


class ByHandLive:
    """A live day as a row of steps, each asked anew of the first day."""

    def __init__(self, day):
        self.first = day
        self.done = []
        self.undone = []

    def step(self, *what):
        self.done.append(what)
        self.undone = []

    def state(self):
        day, clock, promises, tidings = self.first, 0, [], []
        for word, *what in self.done:
            if word == "tell":
                tidings.append((clock, what[0]))
                day = behind_by_hand(day, what[0])
                promises = [promise for promise in promises if promise[0] in worked(day)]
            if word == "wait":
                clock = what[0]
            if word == "promise":
                promises.append((what[0], what[1]))
            if word == "withdraw":
                promises = [promise for promise in promises if promise[0] != what[0]]
        return day, clock, promises, tidings


class Led(Promises):
    def agrees(self, live, hand):
        day, clock, promises, tidings = hand.state()
        values = worked(day)
        self.assertEqual((live.now(), live.clock(), live.promises(), live.tidings(), live.steps()),
                         (day, clock, promises, tidings, len(hand.done)))
        self.assertEqual(live.happened(), [key for key, value in values.items() if known(value) < clock])
        left = [value for value in values.values() if value is not None and value >= clock]
        self.assertEqual(live.coming(), (min(left), [key for key, value in values.items() if value == min(left)]) if left else None)
        self.assertEqual(live.broken(), [(key, minute) for key, minute in promises if known(values[key]) > minute])
        self.assertEqual(day_told(hand.first, [tiding for _, tiding in tidings]), day)
        for key, value in values.items():
            self.assertEqual(live.moment(key), value)

    def one_step(self, chance, live, hand, met):
        day, clock, promises, _ = hand.state()
        values = worked(day)
        word = chance.choice(["tell", "tell", "tell", "wait", "promise", "promise", "withdraw", "undo", "undo", "redo"])
        if word == "tell" and values:
            tiding = some_tiding(chance, day)
            behind = behind_by_hand(day, tiding)
            if behind is None:
                self.refuses(BadTiding, 0, live.tell, tiding)
                self.refuses(BadTiding, 0, live.would_break, tiding)
                return
            others = worked(behind)
            late = [key for key in values if (key not in others or others[key] != values[key])
                    and min(known(values[key]), known(others.get(key))) < clock]
            self.assertEqual(late, comes_late(day, tiding, clock))
            if late:
                self.refuses(Fixed, late[0], live.tell, tiding)
                self.refuses(Fixed, late[0], live.would_break, tiding)
                met.add("late")
                return
            breaks = [(key, minute) for key, minute in promises
                      if key in others and known(values[key]) <= minute < known(others[key])]
            before = seen(live)
            self.assertEqual(live.would_break(tiding), breaks)
            self.assertEqual(seen(live), before)
            self.assertEqual(live.tell(tiding), breaks)
            met.add("breaks" if breaks else "struck" if tiding[0] == "struck" else "tell")
            hand.step("tell", tiding)
        if word == "wait":
            minute = clock + chance.choice([0, 1, 3, 12])
            self.assertIs(live.wait(minute), None)
            hand.step("wait", minute)
        if word == "promise" and values:
            key = chance.choice(list(values))
            minute = chance.choice([chance.randrange(80), 10 ** 6, *([] if values[key] is None else [min(10 ** 6, values[key])] * 3)])
            if key in dict(promises):
                self.refuses(Promised, key, live.promise, key, minute)
            elif known(values[key]) > minute:
                self.refuses(NotSo, "kept", live.promise, key, minute)
            else:
                self.assertIs(live.promise(key, minute), None)
                hand.step("promise", key, minute)
        if word == "withdraw" and promises:
            key = chance.choice(promises)[0]
            self.assertIs(live.withdraw(key), None)
            hand.step("withdraw", key)
            met.add("withdraw")
        if word == "undo":
            if not hand.done:
                self.refuses(NothingToUndo, "step", live.undo)
            else:
                self.assertIs(live.undo(), None)
                hand.undone.append(hand.done.pop())
                met.add("undo " + hand.undone[-1][0])
        if word == "redo":
            if not hand.undone:
                self.refuses(NothingToUndo, "undone", live.redo)
            else:
                self.assertIs(live.redo(), None)
                hand.done.append(hand.undone.pop())
                met.add("redo " + hand.done[-1][0])

    def test_by_any_row_of_steps(self):
        met = set()
        chance = random.Random(1)
        for day in some_days(30, 3, 3):
            live, hand = Live(day), ByHandLive(day)
            self.agrees(live, hand)
            for _ in range(25):
                self.one_step(chance, live, hand, met)
                self.agrees(live, hand)
        words = ("tell", "wait", "promise", "withdraw")
        self.assertEqual(met, {"late", "breaks", "struck", "tell", "withdraw", *[f"undo {word}" for word in words],
                               *[f"redo {word}" for word in words]})

    def test_a_told_row(self):
        live = Live(till_day())
        self.assertEqual((live.clock(), live.promises(), live.happened(), live.steps(), live.tidings(), live.broken()), (0, [], [], 0, [], []))
        self.assertEqual(live.coming(), (0, [("ann", 0, "arrives"), ("ann", 0, "begins"), ("bo", 0, "arrives"), ("cy", 0, "arrives"), ("cy", 0, "begins")]))
        live.wait(minute=1)
        self.assertEqual(live.happened(), [("ann", 0, "arrives"), ("ann", 0, "begins"), ("bo", 0, "arrives"), ("cy", 0, "arrives"), ("cy", 0, "begins")])
        self.assertEqual(live.coming(), (10, [("ann", 0, "ends"), ("bo", 0, "begins")]))
        live.promise(key=BO, minute=20)
        self.assertEqual(live.would_break(tiding=("n", ("ann", 0), 17)), [(BO, 20)])
        self.assertEqual(live.tell(tiding=("n", ("ann", 0), 16)), [])
        self.assertEqual((live.moment(key=BO), live.broken()), (20, []))
        self.assertEqual(live.tell(("n", ("ann", 0), 17)), [(BO, 20)])
        self.assertEqual((live.moment(BO), live.broken(), live.steps()), (21, [(BO, 20)], 4))
        self.assertEqual(live.tidings(), [(1, ("n", ("ann", 0), 16)), (1, ("n", ("ann", 0), 17))])
        # It is broken already: another tiding does not break it once more.
        self.assertEqual(live.tell(("n", ("ann", 0), 30)), [])
        self.assertEqual(live.tell(("n", ("ann", 0), 1)), [])
        self.assertEqual(live.broken(), [])

    def test_coming_is_none_if_there_is_none_but_never(self):
        day = changed_by(till_day(), ("hours", "till", Hours([])))
        live = Live(day)
        live.wait(30)
        self.assertEqual(live.coming(), (30, [("cy", 0, "ends")]))
        live.wait(31)
        self.assertIs(live.coming(), None)
        self.assertIs(live.moment(BO), None)
        self.assertIs(Live(Day()).coming(), None)
        self.assertEqual(Live(Day()).happened(), [])

    def test_steps_that_change_nothing(self):
        live = Live(till_day())
        live.wait(0)
        self.assertEqual(live.tell(("leaves", "ann", 0)), [])
        self.assertEqual((live.steps(), live.tidings()), (2, [(0, ("leaves", "ann", 0))]))
        live.undo()
        live.undo()
        self.refuses(NothingToUndo, "step", live.undo)
        live.redo()
        live.redo()
        self.refuses(NothingToUndo, "undone", live.redo)
        live.undo()
        live.wait(0)
        self.refuses(NothingToUndo, "undone", live.redo)


class Refused(Promises):
    def unchanged(self, live, error, stored, call, *told):
        before, undone = seen(live), live.twin()
        self.refuses(error, stored, call, *told)
        self.assertEqual(seen(live), before)
        self.assertEqual(live, undone)

    def test_tidings_that_come_late(self):
        live = Live(till_day())
        live.wait(11)
        for tiding, key in [(("n", ("ann", 0), 11), ANN), (("n", ("ann", 0), 9), ANN), (("leaves", "cy", 1), ("cy", 0, "arrives")),
                            (("struck", ("cy", 0)), ("cy", 0, "arrives")), (("desks", "till", 2), ("bo", 0, "begins")),
                            (("exchange", "till", 0), ("ann", 0, "begins")), (("n", ("cy", 0), 10), ("cy", 0, "ends"))]:
            self.unchanged(live, Fixed, key, live.tell, tiding)
            self.unchanged(live, Fixed, key, live.would_break, tiding)
        self.assertEqual(live.tell(("n", ("cy", 0), 11)), [])
        self.assertEqual(live.tell(("n", ("bo", 0), 1)), [])
        # At the minute of the clock itself nothing has happened yet.
        live.undo()
        live.undo()
        live.undo()
        live.wait(10)
        self.assertEqual(live.tell(("n", ("ann", 0), 11)), [])

    def test_tidings_that_are_none(self):
        live = Live(till_day())
        barred = at_one_place({"ann": [("counter", "till", 1), ("counter", "till", 2)]})
        for tiding in [*ODD, None, 5, (), ("order", "till", [("bo", 0), ("ann", 0)]), ("struck", ("zoe", 0)), ("n", ("ann", 0), 601)]:
            self.unchanged(live, BadTiding, 0, live.tell, tiding)
            self.unchanged(live, BadTiding, 0, live.would_break, tiding)
        self.unchanged(Live(barred), BadTiding, 0, Live(barred).tell, ("exchange", "till", 0))

    def test_clocks(self):
        live = Live(till_day())
        live.wait(5)
        for minute in [*NO_CLOCKS, 4]:
            self.unchanged(live, BadNumber, minute, live.wait, minute)
        live.wait(5)
        live.wait(10 ** 6)
        self.assertEqual((live.clock(), live.steps()), (10 ** 6, 3))

    def test_promises_in_their_order(self):
        live = Live(till_day())
        live.promise(BO, 14)
        for key in [key for key in NO_MOMENT_KEYS if key not in (BO, ANN, ("cy", 0, "begins"), ("bo", 0, "arrives"))]:
            self.unchanged(live, BadKey, key, live.promise, key, -1)
            self.unchanged(live, BadKey, key, live.moment, key)
            self.unchanged(live, BadKey, key, live.withdraw, key)
            self.unchanged(live, BadKey, key, live.breaking_paper, key)
        for minute in NO_CLOCKS:
            self.unchanged(live, BadNumber, minute, live.promise, BO, minute)
        self.unchanged(live, Promised, BO, live.promise, BO, 13)
        self.unchanged(live, NotSo, "kept", live.promise, ANN, 9)
        live.promise(ANN, 10)
        live.promise(("cy", 0, "begins"), 10 ** 6)
        self.assertEqual(live.promises(), [(BO, 14), (ANN, 10), (("cy", 0, "begins"), 10 ** 6)])
        for key in [("cy", 0, "ends"), ("bo", False, "ends"), ["bo", 0, "ends"]]:
            self.unchanged(live, BadKey, key, live.withdraw, key)
            self.unchanged(live, BadKey, key, live.breaking_paper, key)
        live.withdraw(key=BO)
        self.assertEqual(live.promises(), [(ANN, 10), (("cy", 0, "begins"), 10 ** 6)])
        self.unchanged(live, BadKey, BO, live.withdraw, BO)
        never = Live(changed_by(till_day(), ("hours", "till", Hours([]))))
        self.unchanged(never, NotSo, "kept", never.promise, BO, 10 ** 6)

    def test_days(self):
        self.refuses_part("day", NO_DAYS, Live)
        self.refuses(Ring, shortest_ring(told()), Live, told())


class Broken(Promises):
    def test_a_struck_errand(self):
        live = Live(till_day())
        live.promise(BO, 14)
        live.promise(ANN, 10)
        live.promise(("bo", 0, "begins"), 10)
        self.assertEqual(live.tell(("struck", ("bo", 0))), [])
        self.assertEqual((live.promises(), live.broken()), ([(ANN, 10)], []))
        self.refuses(BadKey, BO, live.withdraw, BO)
        self.refuses(BadKey, BO, live.moment, BO)
        live.undo()
        self.assertEqual(live.promises(), [(BO, 14), (ANN, 10), (("bo", 0, "begins"), 10)])
        live.redo()
        self.assertEqual((live.promises(), live.steps()), ([(ANN, 10)], 4))

    def test_papers(self):
        many = 0
        chance = random.Random(4)
        for day in some_days(40, 3, 3, start=70):
            values = worked(day)
            live = Live(day)
            for key, value in values.items():
                if value is not None and chance.random() < 0.5:
                    live.promise(key, value)
            for _ in range(3):
                if not live.now().all_keys():
                    break
                tiding = some_tiding(chance, live.now())
                try:
                    live.tell(tiding)
                except DayError:
                    continue
            for key, minute in live.promises():
                paper = live.breaking_paper(key=key)
                kept = known(live.moment(key)) <= minute
                self.assertIs(paper is None, kept)
                if not kept:
                    many += 1
                    self.assertEqual(paper, slim_below(live.now(), key))
                    self.assertEqual(paper[key], live.moment(key))
                    self.assertIs(shows_at_least(live.now(), key, minute + 1, paper), True)
        self.assertGreater(many, 10)

    def test_of_never(self):
        live = Live(till_day())
        live.promise(BO, 10 ** 6)
        self.assertEqual(live.tell(("hours", "till", Hours([(0, 13)]))), [(BO, 10 ** 6)])
        self.assertIs(live.breaking_paper(BO)[BO], None)
        self.assertIs(live.moment(BO), None)
        live.breaking_paper(BO).clear()
        self.assertTrue(live.breaking_paper(BO))


class Tries(Promises):
    def test_attempt(self):
        live = Live(till_day())
        live.wait(3)
        live.promise(BO, 20)
        live.wait(4)
        live.undo()
        before = seen(live)

        def deed(given):
            self.assertIs(given, live)
            given.tell(("n", ("ann", 0), 20))
            given.wait(9)
            given.undo()
            given.undo()
            given.undo()
            given.undo()
            self.assertEqual(given.steps(), 0)
            given.wait(7)
            return given.clock()

        self.assertEqual(live.attempt(deed=deed), 7)
        self.assertEqual(seen(live), before)
        live.redo()
        self.assertEqual((live.clock(), live.steps()), (4, 3))
        self.assertIs(live.attempt(lambda given: None), None)

    def test_attempt_with_an_error(self):
        live = Live(till_day())
        live.wait(3)
        before = seen(live)
        for error in (ValueError, KeyError, Fixed):
            def deed(given):
                given.wait(20)
                raise error("x")

            with self.assertRaises(error):
                live.attempt(deed)
            self.assertEqual(seen(live), before)
        self.refuses(Fixed, ("ann", 0, "arrives"), live.attempt, lambda given: given.tell(("leaves", "ann", 2)))
        with self.assertRaises(TypeError):
            live.attempt(5)
        self.assertEqual(seen(live), before)

    def test_trial(self):
        live = Live(till_day())
        live.wait(3)
        live.wait(5)
        live.undo()
        before = seen(live)
        with live.trial() as given:
            self.assertIs(given, live)
            given.tell(("n", ("ann", 0), 20))
            with live.trial() as inner:
                inner.wait(9)
                self.assertEqual(live.clock(), 9)
            self.assertEqual((live.clock(), live.moment(BO)), (3, 24))
            live.undo()
            live.undo()
        self.assertEqual(seen(live), before)
        live.redo()
        self.assertEqual(live.clock(), 5)
        before = seen(live)
        with self.assertRaises(KeyError):
            with live.trial():
                live.wait(50)
                raise KeyError("x")
        self.assertEqual(seen(live), before)

    def test_a_trial_goes_back_to_the_begin_of_its_block(self):
        live = Live(till_day())
        trial = live.trial()
        live.wait(5)
        with trial:
            live.wait(9)
        self.assertEqual((live.clock(), live.steps()), (5, 1))

    def test_twin(self):
        live = Live(till_day())
        live.wait(3)
        live.promise(BO, 20)
        live.undo()
        twin = live.twin()
        self.assertTrue(twin == live and twin is not live)
        self.assertEqual(seen(twin), seen(live))
        twin.redo()
        self.assertEqual((twin.promises(), live.promises(), twin == live), ([(BO, 20)], [], False))
        live.tell(("n", ("ann", 0), 12))
        self.assertEqual((twin.moment(BO), live.moment(BO)), (14, 16))
        twin.undo()
        twin.undo()
        self.assertEqual((twin.clock(), live.clock(), live.steps()), (0, 3, 2))

    def test_equal(self):
        one, other = Live(till_day()), Live(day=till_day())
        self.assertTrue(one == other)
        # Steps and tidings do not count.
        one.tell(("n", ("ann", 0), 11))
        self.assertFalse(one == other)
        one.tell(("n", ("ann", 0), 10))
        self.assertTrue(one == other)
        one.wait(4)
        self.assertTrue(one != other)
        other.wait(2)
        other.wait(4)
        self.assertTrue(one == other)
        one.promise(BO, 20)
        self.assertFalse(one == other)
        other.promise(BO, 21)
        self.assertFalse(one == other)
        other.withdraw(BO)
        other.promise(BO, 20)
        self.assertTrue(one == other)
        one.promise(ANN, 20)
        other.withdraw(BO)
        other.promise(ANN, 20)
        other.promise(BO, 20)
        self.assertFalse(one == other)
        for value in [*ODD, None, 5, till_day(), one.now(), []]:
            self.assertFalse(one == value)
            self.assertTrue(one != value)

    def test_lists_that_are_changed(self):
        live = Live(open_day())
        live.promise(("ann", 0, "ends"), 10 ** 6)
        live.tell(("leaves", "ann", 3))
        live.wait(30)
        before = seen(live)
        for found in (live.promises(), live.happened(), live.tidings(), live.coming()[1], live.broken()):
            found.clear()
        self.assertEqual(seen(live), before)
        self.cannot_be_iterated(live)


if __name__ == "__main__":
    unittest.main()
