"""[49] to [53]: the console."""
import random
import sys
import unittest
from pathlib import Path

sys.path.insert(0, str(Path(__file__).parent))

from byhand import some_days
from checks import ODD, Promises
from risingday.console import Console
from risingday.days import Day
from risingday.errors import (BadKey, BadNumber, BadPart, BadText, BadTiding, DayError, Fixed, NothingToUndo, NotSo,
                              Promised, Ring)
from risingday.live import Live
from risingday.needs import shortest_ring
from risingday.texts import write_day, write_key, write_tiding
from test_days import told
from test_live import BO, till_day
from test_texts import WRONG_INDEXES, WRONG_NAMES
from test_tidings import some_tiding

ALONE = ["show", "clock", "undo", "redo", "happened", "coming", "broken", "promises", "steps"]
BEHIND = ["wait", "promise", "withdraw", "tell", "try", "moment"]
WRONG_COUNTS = ["", "-1", "+1", "00", "01", "1.0", "x", "1" * 10, "1_0", "1 ", " 1", "1 1"]


def loaded(day):
    """A console with a live day of this day."""
    console = Console()
    assert console.run("load " + write_day(day).replace("\n", " / ")) == "ok"
    return console


def listed(answers):
    return ", ".join(answers) if answers else "none"


def promises_told(promises):
    return listed([f"{write_key(key)} {minute}" for key, minute in promises])


def all_told(console):
    return [console.run(line) for line in ("show", "clock", "happened", "coming", "broken", "promises", "steps")]


def told_by(live):
    coming = live.coming()
    return [write_day(live.now()).replace("\n", " / "), str(live.clock()), listed([write_key(key) for key in live.happened()]),
            "none" if coming is None else f"{coming[0]}: {listed([write_key(key) for key in coming[1]])}",
            promises_told(live.broken()), promises_told(live.promises()), str(live.steps())]


def some_line(chance, live):
    """A line, and what it stands for, as a call of the live day that gives the answer."""
    day = live.now()
    keys = [(*key, word) for key in day.all_keys() for word in ("arrives", "begins", "ends")] or [("zoe", 0, "ends")]
    key = chance.choice([*keys, ("zoe", 4, "begins")])
    number = chance.choice([0, 1, live.clock(), live.clock() + 4, chance.randrange(100), 10 ** 6 + 1, 10 ** 9 - 1])
    if key[:2] in day.all_keys() and live.moment(key) is not None and chance.random() < 0.6:
        number = live.moment(key) + chance.choice([0, 0, 2])
    tiding = some_tiding(chance, day) if day.all_keys() else ("leaves", "zoe", 0)

    def ok(call, *values):
        call(*values)
        return "ok"

    def moment():
        value = live.moment(key)
        return "never" if value is None else str(value)

    text = write_key(key)
    return chance.choice([
        (f"wait {number}", lambda: ok(live.wait, number)), *[(f"promise {text} {number}", lambda: ok(live.promise, key, number))] * 3,
        (f"withdraw {text}", lambda: ok(live.withdraw, key)), ("undo", lambda: ok(live.undo)), ("redo", lambda: ok(live.redo)),
        (f"tell {write_tiding(tiding)}", lambda: promises_told(live.tell(tiding))), (f"moment {text}", moment),
        (f"try {write_tiding(tiding)}", lambda: promises_told(live.would_break(tiding))),
        (f"tell {write_tiding(tiding)}", lambda: promises_told(live.tell(tiding)))])


class Lines(Promises):
    def test_each_line_beside_its_call(self):
        chance = random.Random(1)
        answers, errors = set(), set()
        for day in some_days(40, 3, 3):
            console, live = loaded(day), Live(day)
            for _ in range(40):
                line, call = some_line(chance, live)
                before = told_by(live)
                try:
                    answer = call()
                except (DayError, RuntimeError) as error:
                    with self.assertRaises(error.__class__) as caught:
                        console.run(line)
                    self.assertEqual(vars(caught.exception), vars(error))
                    self.assertEqual(told_by(live), before)
                    errors.add(error.__class__)
                else:
                    self.assertEqual(console.run(line), answer)
                    answers.add((line.split(" ")[0], answer if answer in ("ok", "none", "never") else "told"))
                self.assertEqual(all_told(console), told_by(live))
        self.assertTrue({BadKey, BadNumber, BadTiding, Fixed, NotSo, NothingToUndo} <= errors, errors)
        self.assertTrue({("tell", "told"), ("tell", "none"), ("try", "told"), ("try", "none"), ("moment", "told"), ("moment", "never"),
                         ("wait", "ok"), ("promise", "ok"), ("withdraw", "ok"), ("undo", "ok"), ("redo", "ok")} <= answers)

    def test_a_told_row(self):
        console = Console()
        text = ("person ann inn 0 / does counter till 10 / person bo inn 0 / does counter till 4 / person cy inn 0 / does stay inn 30 / "
                "counter till inn 1 always / order ann 0 bo 0 / room bath inn 0 / order")
        for line, answer in [("load " + text, "ok"), ("show", text), ("clock", "0"), ("steps", "0"), ("happened", "none"), ("promises", "none"),
                             ("coming", "0: ann 0 arrives, ann 0 begins, bo 0 arrives, cy 0 arrives, cy 0 begins"), ("wait 1", "ok"), ("clock", "1"),
                             ("happened", "ann 0 arrives, ann 0 begins, bo 0 arrives, cy 0 arrives, cy 0 begins"), ("moment bo 0 ends", "14"),
                             ("promise bo 0 ends 20", "ok"), ("promise ann 0 ends 12", "ok"), ("promises", "bo 0 ends 20, ann 0 ends 12"),
                             ("try n ann 0 17", "bo 0 ends 20, ann 0 ends 12"), ("tell n ann 0 13", "ann 0 ends 12"), ("broken", "ann 0 ends 12"),
                             ("withdraw ann 0 ends", "ok"), ("broken", "none"), ("tell hours till 0 14", "bo 0 ends 20"), ("moment bo 0 ends", "never"),
                             ("steps", "6"), ("undo", "ok"), ("steps", "5"), ("redo", "ok"), ("steps", "6"), ("wait 13", "ok"), ("coming", "13: ann 0 ends"),
                             ("wait 31", "ok"), ("coming", "none"), ("clock", "31")]:
            self.assertEqual(console.run(line=line), answer, line)

    def test_load(self):
        console = Console()
        self.assertEqual(console.run("load "), "ok")
        self.assertEqual((console.run("show"), console.run("coming"), console.run("happened")), ("", "none", "none"))
        self.assertEqual(console.run("load person ann inn 5"), "ok")
        console.run("wait 7")
        console.run("tell leaves ann 9")
        # A second load begins anew.
        self.assertEqual(console.run("load person ann inn 5"), "ok")
        self.assertEqual((console.run("show"), console.run("clock"), console.run("steps")), ("person ann inn 5", "0", "0"))
        with self.assertRaises(NothingToUndo):
            console.run("undo")

    def test_loads_that_fail(self):
        for console in (Console(), loaded(till_day())):
            before = all_told(console) if console.run is not None and self.has_day(console) else None
            for line, error, stored in [("load person", BadText, 0), ("load  ", BadText, 0), ("load person a b 0/does -", BadText, 0),
                                        ("load person a b 0 / does", BadText, 1), ("load person a b 0 /", BadText, 0), ("load counter a b 1", BadText, 1),
                                        ("load person a b 10000", BadNumber, 10000), ("load person a b 0 / does stay c 5", None, None),
                                        ("load " + write_day(told()).replace("\n", " / "), Ring, shortest_ring(told()))]:
                if error is None:
                    with self.assertRaises(DayError):
                        console.run(line)
                else:
                    self.refuses(error, stored, console.run, line)
                if before is None:
                    self.refuses(BadPart, "line", console.run, "show")
                else:
                    self.assertEqual(all_told(console), before)

    def has_day(self, console):
        try:
            console.run("clock")
        except BadPart:
            return False
        return True


class Refused(Promises):
    def test_without_a_live_day(self):
        for line in [*ALONE, *BEHIND, "wait 5", "promise bo 0 ends 20", "tell n ann 0 5", "moment bo 0 ends", "load", "", "x", " load "]:
            self.refuses(BadPart, "line", Console().run, line)

    def test_lines_of_no_form(self):
        console = loaded(till_day())
        console.run("promise bo 0 ends 14")
        console.run("wait 2")
        before = all_told(console)
        wrong = [*[value for value in ODD if not isinstance(value, str)], None, 5, [], ["clock"], {}, "", " ", "x", "load", "Load ", "Clock", "CLOCK", "clocks", "5",
                 *BEHIND, *[word + " " for word in ALONE], *[" " + word for word in ALONE], *[word + " 5" for word in ALONE], *[word + "\n" for word in ALONE],
                 "show show", "wait5", "loads", "wait\t5", "try", "tell", "moment", "moments bo 0 ends", "load\n", "wait 5\n", "moment bo 0 ends\n", "\nclock"]
        wrong += [f"wait {count}" for count in WRONG_COUNTS] + [f"promise ann 0 ends {count}" for count in WRONG_COUNTS]
        wrong += ["promise", "promise ", "promise 5", "promise ann 0 ends", "promise ann 0 5", "promise ann ends 5", "promise ann 0 end 5", "promise  ann 0 ends 5",
                  "promise ann 0 ends  5", "promise ann 0  ends 5", "promise ann 0 ends 5 5", "promise 0 ann ends 5"]
        for word in ("withdraw", "moment"):
            wrong += [f"{word} ", f"{word} bo", f"{word} bo 0", f"{word} bo 0 end", f"{word} bo 0 ends ", f"{word} bo 0 ends 14", f"{word}  bo 0 ends", f"{word} bo  0 ends"]
            wrong += [f"{word} {name} 0 ends" for name in WRONG_NAMES] + [f"{word} bo {index} ends" for index in WRONG_INDEXES]
        for line in wrong:
            with self.subTest(line=line):
                self.refuses(BadPart, "line", console.run, line)
        self.assertEqual(all_told(console), before)

    def test_as_the_calls_and_texts_raise(self):
        console = loaded(till_day())
        console.run("promise bo 0 ends 14")
        console.run("wait 2")
        before = all_told(console)
        for line, error, stored in [("wait 1", BadNumber, 1), ("wait 1000001", BadNumber, 1000001), ("wait 999999999", BadNumber, 999999999),
                                    ("promise bo 0 ends 20", Promised, BO), ("promise zoe 0 ends 20", BadKey, ("zoe", 0, "ends")),
                                    ("promise bo 0 ends 1000001", BadNumber, 1000001), ("promise ann 0 ends 9", NotSo, "kept"),
                                    ("withdraw ann 0 ends", BadKey, ("ann", 0, "ends")), ("moment bo 1 ends", BadKey, ("bo", 1, "ends")),
                                    ("redo", NothingToUndo, "undone"), ("tell leaves ann 1", Fixed, ("ann", 0, "arrives")),
                                    ("try leaves ann 1", Fixed, ("ann", 0, "arrives")), ("tell leaves zoe 1", BadTiding, 0), ("try n ann 0 601", BadTiding, 0),
                                    ("tell leaves ann 01", BadText, 0), ("try leaves", BadText, 0), ("tell order till", BadText, 0), ("tell ", BadText, 0),
                                    ("tell leaves ann 5\n", BadText, 0), ("load person a b 0\n", BadText, 1), ("load person a b 0 / ", BadText, 1),
                                    ("try ", BadText, 0), ("tell hours till 9 0", BadText, 0), ("tell way inn hall level 0 0", BadText, 0), ("load x", BadText, 0)]:
            with self.subTest(line=line):
                self.refuses(error, stored, console.run, line)
        self.assertEqual(all_told(console), before)
        self.refuses(NothingToUndo, "step", loaded(Day()).run, "undo")

    def test_counts(self):
        console = loaded(Day())
        self.assertEqual([console.run("wait 0"), console.run("wait 1000000"), console.run("clock")], ["ok", "ok", "1000000"])


if __name__ == "__main__":
    unittest.main()
