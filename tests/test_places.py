"""[2], [5], [18]: ways between places."""
import sys
import unittest
from pathlib import Path

sys.path.insert(0, str(Path(__file__).parent))

from checks import NO_NAMES, ODD, Promises
from risingday.errors import BadPart, NoWay
from risingday.places import Ways
from risingday.rising import Rising, stay, steady, until

NO_PAIRS = [*ODD, None, 5, (), ("inn",), ("inn", "hall", "mill"), ("inn", "inn"), "in", ("Inn", "hall"),
            ("inn", "Hall"), ("inn", None), (None, "hall"), (5, 6), ("inn", 5), (True, False), ("inn", ("hall",))]
NO_KEYS = [["inn", "hall"], ["inn"], {}, [], (["inn"], "hall"), ({}, {})]
NO_MAPS = [*ODD, 5, 0, [], {}, ((0, 0, True),), [(0, 0, True)], Rising, [stay()]]


def can_be_key(value):
    try:
        return {value: True} is not None
    except TypeError:
        return False


def three():
    return Ways({("mill", "inn"): steady(3), ("inn", "mill"): until(50), ("inn", "hall"): steady(5)})


class Telling(Promises):
    def test_pairs_ascending(self):
        self.assertEqual(three().pairs(), [("inn", "hall"), ("inn", "mill"), ("mill", "inn")])
        names = ["b", "a", "ab", "aa", "abcdefgh", "z", "ba"]
        pairs = [(one, other) for one in names for other in names if one != other]
        self.assertEqual(Ways({pair: stay() for pair in pairs}).pairs(), sorted(pairs))
        self.assertEqual((Ways().pairs(), Ways(None).pairs(), Ways({}).pairs()), ([], [], []))
        self.assertIs(three().pairs().__class__, list)

    def test_leg_of_a_way(self):
        self.assertEqual(three().leg("inn", "hall"), steady(5))
        self.assertEqual(three().leg("inn", "mill"), until(50))
        self.assertEqual(three().leg(start="mill", goal="inn"), steady(3))

    def test_leg_of_a_place_to_itself(self):
        for name in ("inn", "hall", "other", "z"):
            self.assertEqual(three().leg(name, name), stay())
            self.assertEqual(Ways().leg(name, name), stay())

    def test_leg_of_what_is_not_there(self):
        for start, goal in [("hall", "inn"), ("mill", "hall"), ("inn", "other"), ("other", "inn"), ("a", "b")]:
            self.refuses(NoWay, (start, goal), three().leg, start, goal)
            self.refuses(NoWay, (start, goal), Ways().leg, start, goal)
        for wrong in [*NO_NAMES, *NO_KEYS]:
            self.refuses(NoWay, ("inn", wrong), three().leg, "inn", wrong)
            self.refuses(NoWay, (wrong, "inn"), three().leg, wrong, "inn")
        self.refuses(NoWay, (("inn", "hall"), None), three().leg, ("inn", "hall"), None)

    def test_by_name_and_equal(self):
        self.assertEqual(Ways(legs={("inn", "hall"): steady(5)}), Ways({("inn", "hall"): steady(5)}))
        other = Ways({("inn", "hall"): steady(5), ("inn", "mill"): until(50), ("mill", "inn"): steady(3)})
        self.assertTrue(three() == other)
        self.assertTrue(Ways() == Ways({}))
        parted = Rising([(0, 3, True), (4, 7, True)])
        self.assertTrue(three() == three().with_way(("mill", "inn"), parted))
        for changed in (three().with_way(("mill", "inn"), steady(4)), three().with_way(("mill", "inn"), None),
                        three().with_way(("hall", "inn"), steady(5)), Ways()):
            self.assertFalse(three() == changed)
            self.assertTrue(three() != changed)
        for value in [*ODD, None, 5, {}, {("inn", "hall"): steady(5)}, [("inn", "hall")], Ways]:
            self.assertIs(three() == value, False)
            self.assertIs(Ways() == value, False)

    def test_what_is_handed_in_or_out_and_changed_later(self):
        legs = {("inn", "hall"): steady(5)}
        ways = Ways(legs)
        legs[("inn", "hall")] = steady(9)
        legs[("hall", "inn")] = steady(9)
        ways.pairs().clear()
        self.assertEqual(ways.pairs(), [("inn", "hall")])
        self.assertEqual(ways.leg("inn", "hall"), steady(5))
        self.cannot_be_iterated(ways)


class Refusals(Promises):
    def test_no_dict(self):
        self.refuses_part("ways", [*ODD, 5, 0, [], (), [(("inn", "hall"), steady(5))], stay(), three()], Ways)

    def test_pairs_ahead_of_maps(self):
        for pair in NO_PAIRS:
            if not can_be_key(pair):
                continue
            self.refuses(BadPart, "pair", Ways, {pair: steady(5)})
            self.refuses(BadPart, "pair", Ways, {("inn", "hall"): steady(5), pair: steady(5)})
            self.refuses(BadPart, "pair", Ways, {("inn", "hall"): None, pair: None})
        for rising in [*NO_MAPS, None]:
            self.refuses(BadPart, "map", Ways, {("inn", "hall"): rising})
            self.refuses(BadPart, "map", Ways, {("inn", "hall"): stay(), ("a", "b"): rising, ("b", "a"): stay()})

    def test_with_way_in_their_order(self):
        for pair in [*NO_PAIRS, *NO_KEYS]:
            for rising in (None, stay(), 5):
                self.refuses(BadPart, "pair", three().with_way, pair, rising)
        for rising in NO_MAPS:
            self.refuses(BadPart, "map", three().with_way, ("inn", "hall"), rising)
            self.refuses(BadPart, "map", three().with_way, ("a", "b"), rising)
        self.refuses(NoWay, ("hall", "inn"), three().with_way, ("hall", "inn"), None)
        self.refuses(NoWay, ("inn", "hall"), Ways().with_way, ("inn", "hall"), None)


class Changing(Promises):
    def test_puts_in(self):
        ways = three()
        more = ways.with_way(("hall", "inn"), steady(9))
        self.assertEqual(more.pairs(), [("hall", "inn"), ("inn", "hall"), ("inn", "mill"), ("mill", "inn")])
        self.assertEqual((more.leg("hall", "inn"), more.leg("inn", "hall")), (steady(9), steady(5)))
        self.assertEqual(ways, three())

    def test_puts_in_anew(self):
        ways = three()
        told = ways.with_way(pair=("inn", "hall"), rising=steady(9))
        self.assertEqual((told.pairs(), told.leg("inn", "hall")), (ways.pairs(), steady(9)))
        self.assertEqual(told.leg("mill", "inn"), steady(3))
        self.assertEqual(ways.leg("inn", "hall"), steady(5))

    def test_takes_out(self):
        ways = three()
        fewer = ways.with_way(("inn", "mill"), None)
        self.assertEqual(fewer.pairs(), [("inn", "hall"), ("mill", "inn")])
        self.refuses(NoWay, ("inn", "mill"), fewer.leg, "inn", "mill")
        self.assertEqual(ways, three())
        self.assertEqual(Ways({("a", "b"): stay()}).with_way(("a", "b"), None), Ways())


if __name__ == "__main__":
    unittest.main()
