"""3.3 to 3.5 and what 5.5 says of crowns, with 0.2, 0.3 and 0.6 for crowns."""

import unittest
from copy import deepcopy

from askorder.covers import uncovered
from askorder.crowns import crown_paper, crowns, shows_crown
from askorder.rings import top_ring
from samples import (
    SEVEN, all_tables, chains_by_words, check_kept, crowns_by_words, few_tables, holds_by_words, tables_of_all_sizes,
    thin_ring,
)


def chain_changes(many, chain):
    """The chain with one thing left out, put in at some place, or set for another; and turned round."""
    changes = [chain[::-1], []]
    for place in range(len(chain)):
        changes.append(chain[:place] + chain[place + 1:])
        for other in range(many):
            changes.append(chain[:place] + [other] + chain[place + 1:])
    for place in range(len(chain) + 1):
        for other in range(many):
            changes.append(chain[:place] + [other] + chain[place:])
    return changes


def paper_changes(many, paper):
    """Papers that differ from this one in one thing; some of them hold too."""
    if paper[0] == "chain":
        return [("chain", chain) for chain in chain_changes(many, paper[1])]
    pairs = paper[1]
    changes = [pairs[::-1], pairs + pairs[:1], []]
    for place, (chain, beater) in enumerate(pairs):
        changes.append(pairs[:place] + pairs[place + 1:])
        for other in range(many):
            changes.append(pairs[:place] + [(chain, other)] + pairs[place + 1:])
        for changed in chain_changes(many, chain):
            changes.append(pairs[:place] + [(changed, beater)] + pairs[place + 1:])
    return [("beaten", changed) for changed in changes]


class Crowns(unittest.TestCase):
    def test_by_hand(self):
        self.assertEqual(crowns([[False]]), [0])
        self.assertEqual(crowns([[False, False], [True, False]]), [1])
        self.assertEqual(crowns(thin_ring(3)), [0, 1, 2])

    def test_a_thing_that_is_uncovered_and_no_crown(self):
        self.assertEqual(uncovered(SEVEN), [0, 3, 4, 5, 6])
        self.assertEqual(crowns(SEVEN), [0, 4, 5, 6])

    def test_just_the_heads_of_chains_that_stand(self):
        for table in tables_of_all_sizes() + all_tables(5):
            told = crowns(table)
            self.assertIs(type(told), list)
            self.assertEqual(told, crowns_by_words(table))
            self.assertGreaterEqual(len(told), 1)

    def test_crowns_are_uncovered_and_uncovered_things_lie_in_the_top_ring(self):
        for table in tables_of_all_sizes() + all_tables(5):
            self.assertLessEqual(set(crowns(table)), set(uncovered(table)))
            self.assertLessEqual(set(uncovered(table)), set(top_ring(table)))


class CrownPaper(unittest.TestCase):
    def check_form(self, paper):
        self.assertIs(type(paper), tuple)
        self.assertEqual(len(paper), 2)
        self.assertIn(paper[0], ("chain", "beaten"))
        self.assertIs(type(paper[1]), list)
        if paper[0] == "beaten":
            for pair in paper[1]:
                self.assertIs(type(pair), tuple)
                self.assertEqual(len(pair), 2)
                self.assertIs(type(pair[0]), list)
                self.assertIs(type(pair[1]), int)

    def test_by_hand(self):
        self.assertEqual(crown_paper([[False]], 0), ("chain", [0]))
        self.assertEqual(crown_paper([[False, False], [True, False]], 1), ("chain", [1, 0]))
        self.assertEqual(crown_paper([[False, False], [True, False]], 0), ("beaten", [([0], 1)]))
        told = crown_paper(SEVEN, 3)
        self.assertEqual(told[0], "beaten")
        self.assertEqual(sorted(told[1]), [([3, 0, 1], 4), ([3, 1, 2], 6), ([3, 2, 0], 5)])

    def test_for_each_thing_of_the_kind_that_fits(self):
        for table in tables_of_all_sizes():
            chains = chains_by_words(table)
            wanted = crowns_by_words(table)
            for thing in range(len(table)):
                paper = crown_paper(table, thing)
                self.check_form(paper)
                self.assertEqual(paper[0], "chain" if thing in wanted else "beaten")
                self.assertTrue(holds_by_words(table, thing, paper, chains))
                self.assertIs(shows_crown(table, thing, paper), True)


class ShowsCrown(unittest.TestCase):
    def asked(self, thing, *paper):
        return shows_crown(SEVEN, thing, paper)

    def test_chains_by_hand(self):
        self.assertIs(self.asked(4, "chain", [4, 3, 0, 1]), True)
        self.assertIs(self.asked(4, "chain", [4, 3, 0]), False)
        self.assertIs(self.asked(4, "chain", [4, 3, 1, 0]), False)
        self.assertIs(self.asked(4, "chain", [4, 3, 0, 1, 1]), False)
        self.assertIs(self.asked(4, "chain", [4, 3, 0, 1, 2]), False)
        self.assertIs(self.asked(4, "chain", [3, 0, 1]), False)
        self.assertIs(self.asked(4, "chain", []), False)
        self.assertIs(self.asked(3, "chain", [4, 3, 0, 1]), False)
        self.assertIs(self.asked(3, "chain", [3, 0, 1]), False)
        self.assertIs(self.asked(3, "chain", [3, 0, 1, 2]), False)

    def test_beaten_ones_by_hand(self):
        pairs = [([3, 0, 1], 4), ([3, 1, 2], 6), ([3, 2, 0], 5)]
        self.assertIs(self.asked(3, "beaten", pairs), True)
        self.assertIs(self.asked(3, "beaten", pairs[::-1]), True)
        self.assertIs(self.asked(3, "beaten", pairs + [([3], 6), ([3, 0], 5)]), True)
        self.assertIs(self.asked(3, "beaten", []), False)
        for place in range(3):
            self.assertIs(self.asked(3, "beaten", pairs[:place] + pairs[place + 1:]), False)
        self.assertIs(self.asked(3, "beaten", [([3, 0], 4)] + pairs[1:]), False)
        self.assertIs(self.asked(3, "beaten", [([3, 0, 1], 5)] + pairs[1:]), False)
        self.assertIs(self.asked(3, "beaten", [([3, 1, 0], 4)] + pairs[1:]), False)
        self.assertIs(self.asked(3, "beaten", [([3, 0, 1, 2], 4)] + pairs[1:]), False)
        self.assertIs(self.asked(3, "beaten", pairs + [([0, 1], 3)]), False)
        self.assertIs(self.asked(3, "beaten", pairs + [([], 0)]), False)
        self.assertIs(self.asked(3, "beaten", pairs + [([4, 3, 0], 5)]), False)
        self.assertIs(self.asked(4, "beaten", pairs), False)
        self.assertIs(self.asked(3, "another", pairs), False)

    def test_a_chain_may_lie_in_another_one_with_things_between(self):
        # 0 beats all of 1, 2, 3; 1 beats 2 and 3; 2 beats 3: one chain holds all that 1 is the head of.
        table = [[one < other for other in range(4)] for one in range(4)]
        self.assertIs(shows_crown(table, 1, ("beaten", [([1, 2, 3], 0)])), True)
        self.assertIs(shows_crown(table, 1, ("beaten", [([1, 2], 0), ([1, 3], 0)])), False)
        self.assertIs(shows_crown(table, 0, ("chain", [0])), True)
        self.assertIs(shows_crown(table, 0, ("chain", [0, 1, 3])), True)

    def test_papers_of_another_thing(self):
        for table in tables_of_all_sizes():
            for thing in range(len(table)):
                for other in range(len(table)):
                    paper = crown_paper(table, other)
                    self.assertIs(shows_crown(table, thing, paper), thing == other)

    def test_changed_papers(self):
        held = {"chain": 0, "beaten": 0}
        failed = {"chain": 0, "beaten": 0}
        for table in few_tables():
            chains = chains_by_words(table)
            for thing in range(len(table)):
                papers = paper_changes(len(table), crown_paper(table, thing))
                for paper in papers[::1 + len(papers) // 150]:
                    wanted = holds_by_words(table, thing, paper, chains)
                    self.assertIs(shows_crown(table, thing, paper), wanted, (table, thing, paper))
                    (held if wanted else failed)[paper[0]] += 1
        # Papers of both kinds, that hold and that do not, were among them.
        self.assertTrue(min(held.values()) > 50 and min(failed.values()) > 50, (held, failed))


class Kept(unittest.TestCase):
    def test_nothing_handed_in_changes_and_the_answer_stays(self):
        for table in few_tables():
            check_kept(self, crowns, deepcopy(table))
            for thing in range(len(table)):
                check_kept(self, crown_paper, deepcopy(table), thing)
                paper = crown_paper(table, thing)
                check_kept(self, shows_crown, deepcopy(table), thing, deepcopy(paper))
                for changed in paper_changes(len(table), paper)[::29]:
                    check_kept(self, shows_crown, deepcopy(table), thing, deepcopy(changed))


if __name__ == "__main__":
    unittest.main()
