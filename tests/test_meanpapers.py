"""[3] (j), [26], [46]: papers of the least means."""
import itertools
import random
import sys
import unittest
from pathlib import Path

sys.path.insert(0, str(Path(__file__).parent))

from checks import NO_COUNTS, ODD, Promises
from risingday.above import limit_paper
from risingday.days import Day, changed_by
from risingday.errors import BadMenu, BadPart, Ring
from risingday.means import eased, least_picks
from risingday.meanpapers import accepts_means, means_paper
from risingday.moments import moments
from risingday.needs import shortest_ring
from test_days import told
from test_keys import NO_DAYS
from test_means import NO_TARGETS, counter_guest_and_meeting, easings_of
from test_needs import at_one_place
from test_tables import without

DAY = at_one_place({"ann": [("counter", "till", 10)], "bo": [("counter", "till", 10)]})
MENU = [("desk", "till"), ("less", ("ann", 0), 5), ("less", ("bo", 0), 4)]
BO, ANN = ("bo", 0, "ends"), ("ann", 0, "ends")
TARGETS = [(ANN, 10), (BO, 15)]


def paper_by_words(day, targets, menu):
    """What the paper of the means is told to be, of the least picks."""
    every = [picks for size in range(len(menu) + 1) for picks in itertools.combinations(range(len(menu)), size)]
    least = least_picks(day, targets, menu)
    free = [picks for picks in every if not any(set(other) <= set(picks) for other in least)]
    greatest = [picks for picks in free if not any(set(picks) < set(other) for other in free)]
    kept = tuple((picks, tuple(limit_paper(eased(day, menu, picks), key, limit) for key, limit in targets)) for picks in least)
    lost = []
    for picks in greatest:
        papers = [limit_paper(eased(day, menu, picks), key, limit) for key, limit in targets]
        place = [paper[0] for paper in papers].index("broken")
        lost.append((picks, place, papers[place]))
    return ("means", kept, tuple(lost))


class Papers(Promises):
    def test_as_it_is_told_and_right(self):
        seen = set()
        for day, targets, menu in easings_of(3, 70, 2000):
            paper = means_paper(day, targets, menu)
            self.assertEqual(paper, paper_by_words(day, targets, menu))
            self.assertIs(accepts_means(day, targets, menu, paper), True)
            self.assertIs(accepts_means(day=day, targets=tuple(targets), menu=tuple(menu), value=paper), True)
            seen.add((len(paper[1]) > 0, len(paper[2]) > 0))
        self.assertEqual(seen, {(True, True), (True, False), (False, True)})

    def test_told(self):
        paper = means_paper(day=DAY, targets=TARGETS, menu=MENU)
        self.assertEqual([item[0] for item in paper[1]], [(0,), (1,)])
        self.assertEqual([item[:2] for item in paper[2]], [((2,), 1)])
        self.assertEqual(paper[2][0][2][:3], ("broken", BO, 15))
        self.assertEqual([part[:3] for part in paper[1][0][1]], [("kept", ANN, 10), ("kept", BO, 15)])
        whole = means_paper(DAY, [(BO, 20)], MENU)
        self.assertEqual(([item[0] for item in whole[1]], whole[2]), ([()], ()))
        none = means_paper(DAY, [(BO, 20), (ANN, 4)], MENU)
        self.assertEqual((none[1], [item[:2] for item in none[2]]), ((), [((0, 1, 2), 1)]))

    def test_changed_later(self):
        paper = means_paper(DAY, TARGETS, MENU)
        paper[1][0][1][0][3].clear()
        self.assertIs(accepts_means(DAY, TARGETS, MENU, means_paper(DAY, TARGETS, MENU)), True)
        self.assertIs(accepts_means(DAY, TARGETS, MENU, paper), False)


class Judge(Promises):
    def setUp(self):
        self.paper = means_paper(DAY, TARGETS, MENU)
        self.kept, self.lost = self.paper[1:]

    def judged(self, kept, lost):
        return accepts_means(DAY, TARGETS, MENU, ("means", kept, lost))

    def kept_item(self, picks):
        day = eased(DAY, MENU, picks)
        return (picks, tuple(limit_paper(day, key, limit) for key, limit in TARGETS))

    def lost_item(self, picks, place=1):
        return (picks, place, limit_paper(eased(DAY, MENU, picks), *TARGETS[place]))

    def test_papers_by_hand(self):
        one, two = self.kept
        self.assertIs(self.judged((one, two), self.lost), True)
        self.assertIs(self.judged((two, one), self.lost), True)
        # A full table of the moments shows the same.
        day = eased(DAY, MENU, (0,))
        full = ((0,), tuple(("kept", key, limit, moments(day)) for key, limit in TARGETS))
        self.assertIs(self.judged((full, two), self.lost), True)

    def test_more_of_lost(self):
        more = self.lost_item(())
        self.assertIs(self.judged(self.kept, (*self.lost, more)), True)
        self.assertIs(self.judged(self.kept, (more, *self.lost, *self.lost)), True)

    def test_picks_of_kept(self):
        one, two = self.kept
        self.assertIs(self.judged((one, two, one), self.lost), False)
        self.assertIs(self.judged((one, two, self.kept_item((0, 1))), self.lost), False)
        self.assertIs(self.judged((self.kept_item((0, 2)), two), (*self.lost, self.lost_item(()))), False)
        self.assertIs(self.judged((one,), self.lost), False)
        self.assertIs(self.judged((), self.lost), False)
        # It keeps the targets, but one less is not shown to lose them.
        self.assertIs(self.judged((self.kept_item((0, 1)),), self.lost), False)

    def test_lost_that_leaves_out_picks(self):
        self.assertIs(self.judged(self.kept, ()), False)
        self.assertIs(self.judged(self.kept, (self.lost_item(()),)), False)

    def test_items_bent(self):
        one, two = self.kept
        (picks, papers), (lost_picks, place, lost_paper) = one, self.lost[0]
        for item in [(picks, papers[:1]), (picks, (*papers, papers[0])), (picks, papers[::-1]), (picks, list(papers)), (picks, ()),
                     (picks,), (picks, papers, 0), [picks, papers], (list(picks), papers), ((False,), papers), ((2,), papers), ((3,), papers), ((-1,), papers),
                     ((0, 0), papers), (0, papers), (None, papers), (picks, None), (picks, (papers[0], two[1][1])),
                     (picks, (papers[0], ("broken", *papers[1][1:]))), (picks, (papers[0], ("kept", BO, 16, papers[1][3]))),
                     (picks, (papers[0], ("kept", BO, 14, papers[1][3]))), (picks, (papers[0], ("kept", ANN, 15, papers[1][3]))),
                     (picks, (papers[0], list(papers[1]))), (picks, (papers[0], ("kept", BO, 15, without(papers[1][3], BO)))), *ODD]:
            self.assertIs(self.judged((item, two), self.lost), False, item)
        for item in [(lost_picks, 0, lost_paper), (lost_picks, 2, lost_paper), (lost_picks, -1, lost_paper), (lost_picks, True, lost_paper),
                     (lost_picks, None, lost_paper), (lost_picks, place), (lost_picks, place, lost_paper, 0), [lost_picks, place, lost_paper],
                     (list(lost_picks), place, lost_paper), ((0,), place, lost_paper), ((0, 2), place, lost_paper), ((3,), place, lost_paper),
                     (lost_picks, place, ("kept", *lost_paper[1:])), (lost_picks, place, ("broken", BO, 14, lost_paper[3])),
                     (lost_picks, place, ("broken", ANN, 15, lost_paper[3])), (lost_picks, place, list(lost_paper)), (lost_picks, place, None),
                     (lost_picks, place, ("broken", BO, 15, {BO: 16})), (lost_picks, place, ("broken", BO, 15, {})), *ODD]:
            self.assertIs(self.judged(self.kept, (*self.lost, item)), False, item)
        self.assertIs(self.judged(list(self.kept), self.lost), False)
        self.assertIs(self.judged(self.kept, list(self.lost)), False)
        self.assertIs(self.judged(None, self.lost), False)

    def test_a_right_limit_paper_of_another_target(self):
        # Both are right papers of these days, but not for the target that the place names.
        both = [(BO, 15), (("bo", 0, "begins"), 9)]
        paper = means_paper(DAY, both, MENU)
        self.assertIs(accepts_means(DAY, both, MENU, paper), True)
        at = [item for item in paper[2]][0]
        day = eased(DAY, MENU, at[0])
        other = limit_paper(day, *both[1])
        self.assertEqual((at[1], other[0]), (0, "broken"))
        self.assertIs(accepts_means(DAY, both, MENU, (*paper[:2], ((at[0], 0, other), *paper[2][1:]))), False)
        self.assertIs(accepts_means(DAY, both, MENU, (*paper[:2], ((at[0], 1, other), *paper[2][1:]))), True)

    def test_any_value(self):
        for value in [*ODD, None, 5, [], (), list(self.paper), self.paper[:2], (*self.paper, ()), ("mean", *self.paper[1:]),
                      (None, *self.paper[1:]), ("means", self.lost, self.kept), ("means", (), ()), {}, *NO_COUNTS]:
            self.assertIs(accepts_means(DAY, TARGETS, MENU, value), False, value)
        self.assertIs(accepts_means(DAY, [(BO, 14)], MENU, self.paper), False)
        self.assertIs(accepts_means(DAY, TARGETS, MENU[:2], self.paper), False)
        self.assertIs(accepts_means(changed_by(DAY, ("n", ("ann", 0), 11)), TARGETS, MENU, self.paper), False)

    def test_against_other_days(self):
        chance = random.Random(5)
        papers = [(day, targets, menu, means_paper(day, targets, menu)) for day, targets, menu in easings_of(6, 30, 3000)]
        for day, targets, menu, _ in papers:
            _, _, _, other = chance.choice(papers)
            if other != means_paper(day, targets, menu):
                self.assertIs(accepts_means(day, targets, menu, other), False)


class Refusals(Promises):
    def test_in_their_order(self):
        for call in (means_paper, lambda day, targets, menu: accepts_means(day, targets, menu, 5)):
            self.refuses_part("day", NO_DAYS, lambda day: call(day, 5, 5))
            self.refuses(Ring, shortest_ring(told()), call, told(), 5, 5)
            for targets in NO_TARGETS[::4]:
                self.refuses(BadPart, "targets", call, DAY, targets, 5)
            for menu in [5, None, [], MENU * 3]:
                self.refuses(BadPart, "menu", call, DAY, TARGETS, menu)
            self.refuses(BadMenu, 1, call, DAY, TARGETS, [MENU[0], ("less", ("ann", 0), 11), None])
        self.assertIsInstance(counter_guest_and_meeting(), Day)


if __name__ == "__main__":
    unittest.main()
