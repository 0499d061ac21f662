"""[3] (k), [11], [20], [42], [49]: days, keys and tidings as texts."""
import random
import sys
import unittest
from pathlib import Path

sys.path.insert(0, str(Path(__file__).parent))

from byhand import some_day, some_hours, some_map
from checks import NO_NAMES, ODD, Promises
from risingday.counters import Counter
from risingday.days import Day
from risingday.errors import (BadErrand, BadIndex, BadKey, BadName, BadNumber, BadOrder, BadPart, BadText, BadTiding,
                              NoWay)
from risingday.hours import Hours
from risingday.meetings import Meeting
from risingday.people import Person
from risingday.places import Ways
from risingday.rising import Rising, nowhere, since, stay, steady, until
from risingday.rooms import Room
from risingday.texts import read_day, read_key, read_tiding, write_day, write_key, write_tiding
from test_days import told
from test_keys import NO_DAYS
from test_moments import open_day

TEXT = """person bo hall 9
does -
does room bath 5
does counter bank 4
does meet talk
person ann inn 0
does counter bank 10
does -
does meet talk
does room bath 7
does stay mill 3
person cy inn 3
way hall inn rises 0 6
way hall mill rises 0 7
way inn hall rises 0 5
way mill hall rises 0 8
way yard inn rises 0 0
counter till hall 1 always
order
counter bank hall 2 0 50
order bo 2 ann 0
meeting talk hall 20 30 2
room loft inn 0
order
room bath mill 4
order ann 3 bo 1
notice ann 3 1
notice bo 1 2"""
LINES = TEXT.split("\n")
NO_TEXTS = [True, False, None, 5, b"", ["person"], (), {}, object()]
TWENTY = 10 ** 20 - 1
WRONG_FIGURES = ["", "-1", "+1", "00", "01", "1.0", "1_0", "x", "a1", "1" * 21, "0" * 20, "-", "1e3"]
WRONG_NAMES = ["", "Ann", "abcdefghi", "an1", "an_n", "-", "5", "an-n"]
WRONG_INDEXES = ["5", "-1", "00", "01", "10", "", "x", "a"]


def with_line(index, line):
    return "\n".join([*LINES[:index], line, *LINES[index + 1:]])


def index_of(start):
    return next(index for index, line in enumerate(LINES) if line.startswith(start))


class Days(Promises):
    def test_the_told_day(self):
        self.assertEqual(write_day(day=told()), TEXT)
        self.assertEqual(read_day(text=TEXT), told())

    def test_the_empty_text(self):
        self.assertEqual(write_day(Day()), "")
        self.assertEqual(read_day(""), Day())
        self.refuses(BadText, 0, read_day, "\n")
        self.refuses(BadText, 0, read_day, " ")

    def test_maps_and_hours(self):
        late = (steady(5) | since(9)) >> until(30)
        ways = Ways({("a", "b"): late, ("b", "a"): nowhere(), ("a", "c"): steady(TWENTY)})
        day = Day([], ways, [Counter("x", "a", 3, Hours([])), Counter("y", "a", 1, Hours([(0, 0), (2, 9), (11, 9999)])),
                             Counter("always", "a")], [], [Room("order", "a", 600)])
        text = ("way a b level 0 9 rises 5 10 never 26\nway a c rises 0 99999999999999999999\nway b a never 0\n"
                "counter x a 3\norder\ncounter y a 1 0 0 2 9 11 9999\norder\ncounter always a 1 always\norder\nroom order a 600\norder")
        self.assertEqual(write_day(day), text)
        self.assertEqual(read_day(text), day)

    def test_all_come_back(self):
        lines = set()
        for seed in range(250):
            day = some_day(seed, 5, 5, plain=seed % 2 == 0, wild=True)
            text = write_day(day)
            lines |= {" ".join(line.split(" ")[:2]) for line in text.split("\n")}
            self.assertEqual(read_day(text), day)
            self.assertEqual(write_day(read_day(text)), text)
        self.assertTrue({"does -", "does stay", "does counter", "does meet", "does room"} <= lines)

    def test_maps_by_more_rows_than_they_need(self):
        text = with_line(index_of("way inn hall"), "way inn hall rises 0 5 level 3 8 rises 4 9 rises 50 55")
        self.assertEqual(read_day(text), told())
        text = with_line(index_of("way yard inn"), "way yard inn level 0 0 level 1 1 rises 2 2")
        self.assertEqual(write_day(read_day(text)), TEXT)

    def test_ways_in_any_order(self):
        ways = [line for line in LINES if line.startswith("way")]
        first = index_of("way")
        self.assertEqual(read_day("\n".join([*LINES[:first], *ways[::-1], *LINES[first + 5:]])), told())

    def test_refusals(self):
        self.refuses_part("day", NO_DAYS, write_day)
        for value in NO_TEXTS:
            self.refuses(BadText, 0, read_day, value)


class Forms(Promises):
    def spoiled(self, index, *lines):
        """Each of these in the place of this line is told by its index."""
        for line in lines:
            with self.subTest(line=line):
                self.refuses(BadText, index, read_day, with_line(index, line))

    def each_word(self, line, **wrong):
        """The line with each word, told by its place behind a w, made wrong, left out and twice."""
        words = line.split(" ")
        for place, values in wrong.items():
            at = int(place[1:])
            for value in values:
                yield " ".join([*words[:at], value, *words[at + 1:]])
            yield " ".join([*words[:at], *words[at + 1:]])
            yield " ".join([*words[:at + 1], *words[at:]])

    def test_people(self):
        self.spoiled(0, *self.each_word(LINES[0], w1=WRONG_NAMES, w2=WRONG_NAMES, w3=WRONG_FIGURES))
        self.spoiled(0, "person", "Person bo hall 9", "person  bo hall 9", " person bo hall 9", "person bo hall 9 ", "person bo hall 9 9",
                     "bo", "", "people bo hall 9", "person\tbo hall 9")

    def test_errands(self):
        index = index_of("does room")
        self.spoiled(index, *self.each_word("does room bath 5", w2=WRONG_NAMES, w3=WRONG_FIGURES))
        self.spoiled(index, "does", "does ", "does - 5", "does --", "does meet", "does meet talk 5", "does stay mill", "does counter bank",
                     "does walk mill 5", "does room", "does Room bath 5", "Does room bath 5", "does room bath 5 5", "does counter bank 4 ")
        self.spoiled(index_of("does meet"), *self.each_word("does meet talk", w2=WRONG_NAMES))

    def test_ways(self):
        index = index_of("way inn hall")
        self.spoiled(index, *[line for line in self.each_word("way inn hall rises 0 5", w1=WRONG_NAMES, w2=WRONG_NAMES, w4=WRONG_FIGURES,
                                                              w5=WRONG_FIGURES)])
        self.spoiled(index, "way", "way inn", "way inn hall", "way inn hall ", "way inn hall never", "way inn hall never 0 5", "way inn hall level 0",
                     "way inn hall rises 0 5 never", "way inn hall rises 0 5 level 7", "way inn hall 0 5", "way inn hall goes 0 5",
                     "way inn hall rises 0 5 ", "way inn hall rises 0 5 rises", "way inn hall Never 0")
        # A pair that an earlier line has, also one whose map is none.
        self.spoiled(index, "way hall inn rises 0 9")
        self.refuses(BadText, 2, read_day, "person a b 0\nway a b level 0 0\nway a b rises 0 0")
        self.refuses(BadText, 1, read_day, "way a a rises 0 0\nway a a rises 0 0")

    def test_counters(self):
        index = index_of("counter bank")
        self.spoiled(index, *self.each_word(LINES[index], w1=WRONG_NAMES, w2=WRONG_NAMES, w3=WRONG_FIGURES, w4=WRONG_FIGURES, w5=WRONG_FIGURES))
        self.spoiled(index, "counter", "counter bank", "counter bank hall", "counter bank hall 2 always always", "counter bank hall 2 always 0 50",
                     "counter bank hall 2 0 50 always", "counter bank hall 2 0 50 60", "counter bank hall 2 never", "counter bank hall 2 ")

    def test_orders(self):
        index = index_of("order bo")
        self.spoiled(index, *self.each_word(LINES[index], w1=WRONG_NAMES, w2=WRONG_INDEXES, w3=WRONG_NAMES, w4=WRONG_INDEXES))
        self.spoiled(index, "order ", "order bo", "order bo 2 ann", "Order bo 2 ann 0", "orders", "order bo 2 ann 0 ")

    def test_meetings_and_rooms(self):
        index = index_of("meeting")
        self.spoiled(index, *self.each_word(LINES[index], w1=WRONG_NAMES, w2=WRONG_NAMES, w3=WRONG_FIGURES, w4=WRONG_FIGURES, w5=WRONG_FIGURES))
        self.spoiled(index, "meeting", "meeting talk", "meeting talk hall 20 30", "meeting talk hall 20 30 2 2", "meet talk hall 20 30 2")
        index = index_of("room bath")
        self.spoiled(index, *self.each_word(LINES[index], w1=WRONG_NAMES, w2=WRONG_NAMES, w3=WRONG_FIGURES))
        self.spoiled(index, "room", "room bath mill", "room bath mill 4 4")

    def test_notices(self):
        index = len(LINES) - 1
        self.spoiled(index, *self.each_word(LINES[index], w1=WRONG_NAMES, w2=WRONG_INDEXES, w3=WRONG_FIGURES))
        self.spoiled(index, "notice", "notice bo 1", "notice bo", "notice bo 1 2 3", "notice ann 3 2", "notice ann 3 1")

    def test_figures_of_one_and_of_twenty_digits(self):
        self.assertEqual(read_day("way a b rises 0 " + "9" * 20), Day([], Ways({("a", "b"): steady(TWENTY)})))
        self.refuses(BadText, 0, read_day, "way a b rises 0 1" + "0" * 20)
        self.refuses(BadNumber, TWENTY, read_day, "person a b " + "9" * 20)

    def test_each_line_behind_each_other(self):
        samples = {"person": "person zoe inn 3", "does": "does stay inn 1", "way": "way inn yard rises 0 1", "counter": "counter desk inn 1 always",
                   "order": "order", "meeting": "meeting chat inn 0 0 1", "room": "room den inn 0", "notice": "notice zoe 0 1"}
        ahead = {"": [], "person": [samples["person"]], "does": [samples["person"], samples["does"]], "way": [samples["way"]],
                 "counter": [samples["counter"]], "counter order": [samples["counter"], "order"], "meeting": [samples["meeting"]],
                 "room": [samples["room"]], "room order": [samples["room"], "order zoe 0"],
                 "notice": [samples["room"], "order", "notice zoe 1 1"]}
        parts = ["person", "way", "counter", "meeting", "room"]
        let = {"": parts, "person": ["does", *parts], "does": ["does", *parts], "way": parts[1:], "counter": ["order"],
               "counter order": parts[2:], "meeting": parts[3:], "room": ["order"], "room order": ["notice", "room"],
               "notice": ["notice", "room"]}
        for state, lines in ahead.items():
            for word, line in samples.items():
                if line in lines and word == "way":
                    line = "way yard inn rises 0 1"
                text = "\n".join([*lines, line, "end"])
                # The line that has no form at all is told only if the one ahead of it may stand there.
                self.refuses(BadText, len(lines) + (word in let[state]), read_day, text)

    def test_an_order_that_is_wanted_at_the_end(self):
        self.refuses(BadText, 1, read_day, "counter till hall 1")
        self.refuses(BadText, 1, read_day, "room bath hall 1")
        index = index_of("order bo")
        self.refuses(BadText, index, read_day, "\n".join(LINES[:index]))
        self.refuses(BadText, index, read_day, "\n".join([*LINES[:index], *LINES[index + 1:]]))
        self.refuses(BadText, index + 1, read_day, "\n".join([*LINES[:index + 1], *LINES[index:]]))
        self.refuses(BadText, len(LINES), read_day, TEXT + "\n")

    def test_a_notice_behind_the_order_of_a_counter(self):
        self.refuses(BadText, 2, read_day, "counter till hall 1\norder\nnotice a 0 1")
        self.refuses(BadText, 3, read_day, "room bath hall 1\norder a 0\nnotice a 0 1\nnotice a 0 2")
        # In another room the same key may stand again: that the day refuses.
        text = "person a hall 0\ndoes room bath 1\nroom bath hall 1\norder a 0\nnotice a 0 1\nroom den hall 1\norder a 0\nnotice a 0 2"
        self.refuses(BadOrder, "den", read_day, text)

    def test_the_first_wrong_line(self):
        lines = list(LINES)
        lines[3], lines[15], lines[20] = "does", "way", "order 5"
        self.refuses(BadText, 3, read_day, "\n".join(lines))
        # A line of no form is told ahead of what cannot be made of those ahead of it.
        lines[3] = "does stay mill 601"
        self.refuses(BadText, 15, read_day, "\n".join(lines))


class Made(Promises):
    def test_line_by_line(self):
        """Each of these is told ahead of those that stand behind it."""
        wrong = [("person bo", "person bo hall 10000", BadNumber, 10000), ("does room bath 5", "does room bath 601", BadErrand, 1),
                 ("person ann", "person ann inn 99999", BadNumber, 99999), ("does counter bank 10", "does counter bank 700", BadErrand, 0),
                 ("person cy", "person cy inn 10001", BadNumber, 10001), ("way hall inn", "way hall inn level 0 6", BadPart, "way"),
                 ("way yard inn", "way yard inn rises 1 6", BadPart, "way"), ("counter till", "counter till hall 4 always", BadNumber, 4),
                 ("counter bank", "counter bank hall 9 5 2", BadPart, "hours"), ("order bo", "order bo 2 bo 2", BadPart, "order"),
                 ("meeting", "meeting talk hall 10000 30 2", BadNumber, 10000), ("room loft", "room loft inn 601", BadNumber, 601),
                 ("order ann", "order ann 3 ann 3", BadPart, "order"), ("notice bo", "notice bo 1 601", BadPart, "notices")]
        lines = list(LINES)
        for start, line, error, stored in wrong[::-1]:
            lines[index_of(start)] = line
            self.refuses(error, stored, read_day, "\n".join(lines))
            self.refuses(error, stored, read_day, with_line(index_of(start), line))

    def test_of_one_line(self):
        for line, error, stored in [("person a b 0\n" + "\n".join(["does -"] * 6), BadPart, "errands"),
                                    ("person a b 0\ndoes meet talk\ndoes meet talk", BadErrand, 1),
                                    ("counter a b 0\norder", BadNumber, 0), ("counter a b 1 0 9 9 12\norder", BadPart, "hours"),
                                    ("counter a b 1 0 1 2 3 4 5 6 7 8 9\norder", BadPart, "hours"), ("counter a b 4 9 0\norder", BadPart, "hours"),
                                    ("counter a b 1 0 10000\norder", BadPart, "hours"), ("meeting a b 0 601 1", BadNumber, 601), ("meeting a b 0 0 7", BadNumber, 7),
                                    ("meeting a b 0 0 0", BadNumber, 0), ("room a b 0\norder\nnotice c 0 1", BadPart, "notices"),
                                    ("way a b rises 0 0 level 0 5", BadPart, "way"), ("way a b level 0 5", BadPart, "way"),
                                    ("way a b rises 0 5 level 9 2 never 10", BadPart, "way"), ("way a b never 1", BadPart, "way")]:
            self.refuses(error, stored, read_day, line)

    def test_ways_and_the_day_at_last(self):
        self.refuses(BadPart, "pair", read_day, "way a a rises 0 0")
        self.refuses(BadPart, "pair", read_day, "person a inn 0\nperson a inn 0\nway a a rises 0 0\nroom a inn 0\norder")
        self.refuses(BadNumber, 601, read_day, "way a a rises 0 0\nroom a inn 601\norder")
        for text, error, stored in [("person a inn 0\nperson a inn 0", BadName, "a"), ("counter a b 1\norder\nroom a b 1\norder", BadName, "a"),
                                    ("person a inn 0\ndoes counter till 1", BadKey, ("a", 0)), ("counter a b 1\norder c 0", BadOrder, "a"),
                                    ("person a inn 0\ndoes stay hall 1", NoWay, ("inn", "hall")), ("meeting a b 0 0 1", BadPart, "quorum"),
                                    ("way a b rises 0 0\nway c d rises 0 0\nway e f rises 0 0\nway g a rises 0 0", BadPart, "places"),
                                    ("\n".join([f"person {name} inn 0" for name in "abcdefg"]), BadPart, "people")]:
            self.refuses(error, stored, read_day, text)


class Keys(Promises):
    def test_written_and_read(self):
        for key, text in [(("ann", 0), "ann 0"), (("a", 4), "a 4"), (("abcdefgh", 3), "abcdefgh 3"), (("ann", 1, "arrives"), "ann 1 arrives"),
                          (("bo", 0, "begins"), "bo 0 begins"), (("bo", 4, "ends"), "bo 4 ends"), (("ends", 0, "ends"), "ends 0 ends")]:
            self.assertEqual(write_key(key=key), text)
            self.assertEqual(read_key(text=text), key)

    def test_of_no_form(self):
        for value in [*ODD, None, 5, (), [], ("ann",), ["ann", 0], ("ann", 5), ("ann", -1), ("ann", True), ("ann", None), ("ann", "0"), ("Ann", 0),
                      ("ann", 0, "end"), ("ann", 0, "Ends"), ("ann", 0, None), ("ann", 0, ["ends"]), ("ann", 0, "ends", 0), (("ann", 0), "ends"),
                      ("ann", True, "ends"), *[(name, 0) for name in NO_NAMES], *[(name, 0, "ends") for name in NO_NAMES], "ann 0"]:
            self.refuses(BadKey, value, write_key, value)
        for text in [*NO_TEXTS, "", "ann", "ann ", "ann 0 ", " ann 0", "ann  0", "ann 5", "ann 00", "ann -1", "ann 0 end", "ann 0 Ends", "ann 0 ends ",
                     "ann 0 ends 0", "Ann 0", "ann 0\n", "ann\n0", "5 0", "ann ends", "ann ends 0", *[f"{name} 0" for name in WRONG_NAMES],
                     *[f"ann {index}" for index in WRONG_INDEXES], *[f"ann {index} ends" for index in WRONG_INDEXES]]:
            self.refuses(BadText, 0, read_key, text)


TOLD = [(("leaves", "ann", 0), "leaves ann 0"), (("leaves", "leaves", TWENTY), "leaves leaves 99999999999999999999"), (("n", ("ann", 0), 7), "n ann 0 7"),
        (("opens", "talk", 10), "opens talk 10"), (("length", "talk", 9), "length talk 9"), (("quorum", "talk", 3), "quorum talk 3"),
        (("desks", "bank", 2), "desks bank 2"), (("hours", "bank", Hours()), "hours bank always"), (("hours", "bank", Hours([])), "hours bank"),
        (("hours", "bank", Hours([(0, 9), (11, 9999)])), "hours bank 0 9 11 9999"), (("turn", "bath", 4), "turn bath 4"),
        (("notice", ("bo", 4), 600), "notice bo 4 600"), (("way", ("inn", "hall"), stay()), "way inn hall rises 0 0"),
        (("way", ("inn", "hall"), since(3) >> until(9)), "way inn hall level 0 3 rises 4 4 never 10"), (("way", ("a", "b"), nowhere()), "way a b never 0"),
        (("struck", ("ann", 2)), "struck ann 2"), (("exchange", "bank", 0), "exchange bank 0"), (("exchange", "zoe", 12345), "exchange zoe 12345")]


class Tidings(Promises):
    def test_each_word(self):
        for tiding, text in TOLD:
            self.assertEqual(write_tiding(tiding=tiding), text)
            self.assertEqual(read_tiding(text=text), tiding)

    def test_by_chance(self):
        chance = random.Random(1)
        for _ in range(100):
            number = chance.choice([chance.randrange(10), chance.randrange(10 ** 20)])
            for tiding in [("leaves", "ann", number), ("n", ("bo", chance.randrange(5)), number), ("exchange", "bank", number),
                           ("way", ("inn", "hall"), some_map(chance)), ("hours", "bank", some_hours(chance) or Hours())]:
                self.assertEqual(read_tiding(write_tiding(tiding)), tiding)

    def test_maps_by_more_rows_than_they_need(self):
        self.assertEqual(read_tiding("way inn hall rises 0 0 rises 5 5 level 9 9 rises 10 10"), ("way", ("inn", "hall"), stay()))

    def test_values_of_no_form(self):
        wrong = [*ODD, None, 5, (), [], ("leaves",), ("leaves", "ann"), ("leaves", "ann", 0, 0), ["leaves", "ann", 0], ("leave", "ann", 0), ("Leaves", "ann", 0),
                 (b"leaves", "ann", 0), (None, "ann", 0), (["leaves"], "ann", 0), ("order", "bank", []), ("order", "bank", [("ann", 0)]),
                 ("notice", ("ann", 0), None), ("hours", "bank", None), ("hours", "bank", [(0, 9)]), ("hours", "bank", 5), ("way", ("inn", "hall"), None),
                 ("way", "inn", "hall"), ("way", ["inn", "hall"], stay()), ("way", ("inn",), stay()), ("way", ("inn", "hall", "mill"), stay()),
                 ("way", ("inn", "hall"), ((0, 0, True),)), ("way", ("inn", 5), stay()), ("struck", ("ann", 0), 0), ("struck", "ann", 0), ("struck", "ann"),
                 ("struck",), ("n", "ann", 0), ("n", ("ann", 0)), ("leaves", ("ann", 0), 0), ("exchange", ("ann", 0), 0), ("desk", "bank"), ("way", ("Inn", "hall"), stay())]
        for number in [*ODD, None, -1, 10 ** 20, 10 ** 5000, [5], (5,)]:
            wrong += [(word, "ann", number) for word in ("leaves", "opens", "length", "quorum", "desks", "turn", "exchange")]
            wrong += [("n", ("ann", 0), number), ("notice", ("ann", 0), number)]
        for name in NO_NAMES:
            wrong += [(word, name, 0) for word in ("leaves", "opens", "length", "quorum", "desks", "turn", "exchange")]
            wrong += [("hours", name, Hours()), ("way", (name, "hall"), stay()), ("way", ("inn", name), stay()), ("struck", (name, 0)), ("n", (name, 0), 0)]
        for key in [("ann", 5), ("ann", -1), ("ann", True), ("ann", 0, "ends"), ["ann", 0]]:
            wrong += [("n", key, 0), ("notice", key, 0), ("struck", key)]
        for value in wrong:
            self.refuses(BadTiding, 0, write_tiding, value)

    def test_texts_of_no_form(self):
        wrong = [*NO_TEXTS, "", " ", "leaves", "leaves ", "leaves ann", "leaves ann ", "leaves ann 0 0", " leaves ann 0", "leaves ann 0 ", "leaves  ann 0", "leave ann 0",
                 "Leaves ann 0", "order bank", "order bank ann 0", "notice ann 0", "notice ann 0 none", "hours bank never", "hours bank 0", "hours bank 0 9 11",
                 "hours bank always 0 9", "hours bank always always", "hours", "hours bank ", "way inn hall", "way inn", "way inn hall never", "way inn hall rises 0", "struck ann",
                 "struck ann 0 0", "struck ann 5", "exchange bank", "exchange bank 0 0", "exchange bank -1", "n ann 0", "n ann 5 0", "n ann 0 0 0", "leaves ann 0\n",
                 "leaves ann\n0"]
        for tiding, text in TOLD:
            words = text.split(" ")
            wrong += [" ".join(words[:place]) for place in range(len(words)) if words[:place] != ["hours", "bank"] and len(words) < 6]
            wrong += [text + " ", text + " x", text.replace(" ", "  ", 1), text + "\n"]
        for figure in WRONG_FIGURES:
            wrong += [f"leaves ann {figure}", f"n ann 0 {figure}", f"hours bank 0 {figure}", f"way inn hall rises 0 {figure}", f"exchange bank {figure}"]
        for name in WRONG_NAMES:
            wrong += [f"leaves {name} 0", f"n {name} 0 0", f"hours {name} always", f"way {name} hall rises 0 0", f"way inn {name} rises 0 0", f"struck {name} 0"]
        for text in wrong:
            self.refuses(BadText, 0, read_tiding, text)

    def test_maps_and_hours_that_cannot_be_made(self):
        for text in ["hours bank 9 0", "hours bank 0 10000", "hours bank 0 9 9 12", "hours bank 0 1 2 3 4 5 6 7 8 9", "way inn hall level 0 5", "way inn hall never 1",
                     "way inn hall rises 5 5", "way inn hall rises 0 9 rises 3 4", "way inn hall rises 0 0 level 0 0"]:
            self.refuses(BadText, 0, read_tiding, text)

    def test_what_is_written_stays(self):
        rising = Rising([(0, 0, True), (5, 9, False), (6, None, False)])
        tiding = ("way", ("inn", "hall"), rising)
        self.assertEqual(write_tiding(tiding), "way inn hall rises 0 0 level 5 9 never 6")
        self.assertEqual(tiding[2].rows, ((0, 0, True), (5, 9, False), (6, None, False)))
        day = open_day()
        write_day(day)
        self.assertEqual(day, open_day())
        with self.assertRaises(BadIndex):
            Rising([(0, 5, False)])
        self.assertEqual(Person("a", "b", 0).leaves, 0)
        self.assertEqual(Meeting("a", "b", 0, 0).quorum, 1)


if __name__ == "__main__":
    unittest.main()
