"""[2], [4], [6], [17]: people."""
import sys
import unittest
from pathlib import Path

sys.path.insert(0, str(Path(__file__).parent))

from checks import NO_COUNTS, NO_LISTS, NO_NAMES, ODD, Promises
from risingday.errors import BadErrand, BadIndex, BadName, BadNumber, BadPart
from risingday.people import Person, is_errand

ERRANDS = [("stay", "inn", 0), ("counter", "bank", 600), ("meet", "talk"), ("room", "bath", 7), ("stay", "stay", 1),
           ("meet", "abcdefgh"), ("counter", "z", 0)]
NO_ERRANDS = [
    *ODD, 5, {}, [], (), ("stay",), ("meet",), ("stay", "inn"), ("counter", "bank"), ("room", "bath"),
    ("meet", "talk", 5), ("stay", "inn", 5, 5), ("meet", "talk", None), ["stay", "inn", 5], ["meet", "talk"],
    ("walk", "inn", 5), ("Stay", "inn", 5), ("", "inn", 5), ("inn", "stay", 5), (None, "inn", 5), (0, "inn", 5),
    (("stay",), "inn", 5), (["stay"], "inn", 5), "stay", ("stay", 5, "inn"), {"stay": 1},
    *[("stay", name, 5) for name in NO_NAMES], *[("meet", name) for name in NO_NAMES],
    *[("counter", "bank", n) for n in [*NO_COUNTS, 601]], *[("room", "bath", n) for n in [*NO_COUNTS, 601]],
    *[("stay", "inn", n) for n in [*NO_COUNTS, 601]],
]
WRONG_MINUTES = [*NO_COUNTS, 10000]
FIVE = [("stay", "inn", 5), None, ("meet", "talk"), ("counter", "bank", 9), ("room", "bath", 0)]


class Errands(Promises):
    def test_all_kinds_of_values(self):
        for value in ERRANDS:
            self.assertIs(is_errand(value), True, value)
        for value in [*NO_ERRANDS, None]:
            self.assertIs(is_errand(value), False, value)
        self.assertIs(is_errand(value=("meet", "talk")), True)


class People(Promises):
    def test_keeps_what_was_told(self):
        ann = Person("ann", "inn", 9999, FIVE)
        self.assertEqual((ann.name, ann.home, ann.leaves, ann.errands), ("ann", "inn", 9999, tuple(FIVE)))
        self.assertIs(ann.errands.__class__, tuple)
        named = Person(name="abcdefgh", home="z", leaves=0, errands=(None, None))
        self.assertEqual((named.name, named.home, named.leaves, named.errands), ("abcdefgh", "z", 0, (None, None)))
        self.assertEqual((Person("a", "b", 5).errands, Person("a", "a", 5, []).errands), ((), ()))
        for errand in ERRANDS:
            self.assertEqual(Person("a", "b", 5, [errand]).errands, (errand,))

    def test_own_keys(self):
        self.assertEqual(Person("ann", "inn", 5, FIVE).own_keys(), [("ann", 0), ("ann", 2), ("ann", 3), ("ann", 4)])
        self.assertEqual(Person("ann", "inn", 5).own_keys(), [])
        self.assertEqual(Person("ann", "inn", 5, [None]).own_keys(), [])
        ann = Person("ann", "inn", 5, FIVE)
        ann.own_keys().clear()
        self.assertEqual(len(ann.own_keys()), 4)
        self.assertIs(ann.own_keys().__class__, list)

    def test_lists_handed_in_and_changed_later(self):
        errands = list(FIVE)
        ann = Person("ann", "inn", 5, errands)
        errands[0] = None
        errands.pop()
        self.assertEqual(ann.errands, tuple(FIVE))
        self.cannot_be_iterated(ann)

    def test_like_errands_and_meetings_twice(self):
        same = [("stay", "inn", 5)] * 5
        self.assertEqual(Person("ann", "inn", 5, same).errands, tuple(same))
        talk, bank = ("meet", "talk"), ("counter", "talk", 5)
        self.assertEqual(len(Person("ann", "inn", 5, [bank, bank, talk, ("meet", "other"), None]).errands), 5)
        self.refuses(BadErrand, 1, Person, "ann", "inn", 5, [talk, talk])
        self.refuses(BadErrand, 4, Person, "ann", "inn", 5, [None, talk, bank, None, talk])
        self.refuses(BadErrand, 2, Person, "ann", "inn", 5, [talk, ("meet", "other"), talk, talk])
        self.refuses(BadErrand, 2, Person, "ann", "inn", 5, (talk, bank, ("meet", "talk"), 5))

    def test_each_wrong_argument(self):
        self.refuses_each(BadName, NO_NAMES, lambda name: Person(name, "inn", 5))
        self.refuses_part("home", NO_NAMES, lambda home: Person("ann", home, 5))
        self.refuses_each(BadNumber, WRONG_MINUTES, lambda leaves: Person("ann", "inn", leaves))
        wrong = [*NO_LISTS, [None] * 6, (None,) * 6, [("stay", "inn", 5)] * 6]
        self.refuses_part("errands", wrong, lambda errands: Person("ann", "inn", 5, errands))
        for errand in NO_ERRANDS:
            self.refuses(BadErrand, 0, Person, "ann", "inn", 5, [errand])
            self.refuses(BadErrand, 1, Person, "ann", "inn", 5, [None, errand, errand])
            self.refuses(BadErrand, 4, Person, "ann", "inn", 5, (*FIVE[:4], errand))

    def test_the_first_wrong_one_of_several(self):
        self.refuses(BadName, "", Person, "", "", -1, None)
        self.refuses(BadPart, "home", Person, "ann", "", -1, None)
        self.refuses(BadNumber, -1, Person, "ann", "inn", -1, None)
        self.refuses(BadPart, "errands", Person, "ann", "inn", 5, [5] * 6)
        self.refuses(BadErrand, 1, Person, "ann", "inn", 5, [None, 5, 5])

    def test_leaving_at(self):
        ann = Person("ann", "inn", 5, FIVE)
        later = ann.leaving_at(9999)
        self.assertEqual((later.name, later.home, later.leaves, later.errands), ("ann", "inn", 9999, tuple(FIVE)))
        self.assertEqual(ann.leaves, 5)
        self.assertEqual(ann.leaving_at(minute=0), Person("ann", "inn", 0, FIVE))
        self.refuses_each(BadNumber, WRONG_MINUTES, ann.leaving_at)

    def test_with_errand(self):
        ann = Person("ann", "inn", 5, FIVE)
        struck = ann.with_errand(0, None)
        self.assertEqual(struck, Person("ann", "inn", 5, [None, *FIVE[1:]]))
        self.assertEqual(struck.own_keys(), [("ann", 2), ("ann", 3), ("ann", 4)])
        told = ann.with_errand(index=1, errand=("meet", "other"))
        self.assertEqual(told, Person("ann", "inn", 5, [FIVE[0], ("meet", "other"), *FIVE[2:]]))
        self.assertEqual(ann.with_errand(2, ("meet", "talk")), ann)
        self.assertEqual(ann.with_errand(4, ("stay", "inn", 5)).errands[4], ("stay", "inn", 5))
        self.assertEqual(ann.errands, tuple(FIVE))

    def test_wrong_errands_and_indexes(self):
        ann = Person("ann", "inn", 5, FIVE)
        self.refuses_each(BadIndex, [*NO_COUNTS, 5, 10 ** 19], lambda index: ann.with_errand(index, None))
        self.refuses_each(BadIndex, [*NO_COUNTS, 5], lambda index: ann.with_errand(index, 5))
        self.refuses_each(BadIndex, [0, 1, -1], lambda index: Person("ann", "inn", 5).with_errand(index, None))
        for errand in NO_ERRANDS:
            self.refuses(BadErrand, 3, ann.with_errand, 3, errand)
        self.refuses(BadErrand, 4, ann.with_errand, 4, ("meet", "talk"))
        self.refuses(BadErrand, 2, ann.with_errand, 0, ("meet", "talk"))

    def test_equal(self):
        ann = Person("ann", "inn", 5, FIVE)
        self.assertTrue(ann == Person("ann", "inn", 5, tuple(FIVE)))
        for other in (Person("bo", "inn", 5, FIVE), Person("ann", "hall", 5, FIVE), Person("ann", "inn", 6, FIVE),
                      Person("ann", "inn", 5, FIVE[:4]), Person("ann", "inn", 5, [None, *FIVE[1:]])):
            self.assertFalse(ann == other)
            self.assertTrue(ann != other)
        for other in [*ODD, None, "ann", ("ann", "inn", 5, tuple(FIVE)), Person]:
            self.assertIs(ann == other, False)


if __name__ == "__main__":
    unittest.main()
