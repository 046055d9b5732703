"""5.1 to 5.4 as far as orders go, with 0.2, 0.5 and 0.6 for them."""

import unittest
from copy import deepcopy
from itertools import permutations

from askorder.ahead import chain_behind
from askorder.errors import BadOrder, Unknown
from askorder.orders import brings, to_crown, to_rest, to_stand
from askorder.rings import rings
from kinds import KINDS, NO_KINDS, led_to
from samples import (
    FOUR, SEVEN, all_tables, chains_by_words, check_kept, check_refused, crowns_by_words, few_tables, holds_by_words,
    no_orders, some_orders, tables_of_all_sizes, thin_ring, top_by_words,
)


class Papers(unittest.TestCase):
    def check_order(self, table, kind, thing, order):
        self.assertIs(type(order), list)
        self.assertEqual(sorted(order), list(range(len(table))))
        self.assertEqual(led_to(table, kind, order), thing)

    def check_rings(self, table, kind, asking):
        top = top_by_words(table)
        for thing in range(len(table)):
            paper = asking(table, thing)
            self.assertIs(type(paper), tuple)
            self.assertEqual(len(paper), 2)
            if thing in top:
                self.assertEqual(paper[0], "order")
                self.check_order(table, kind, thing, paper[1])
            else:
                self.assertEqual(paper, ("shut", top))
                self.assertIs(type(paper[1]), list)

    def check_crowns(self, table):
        wanted = crowns_by_words(table)
        chains = chains_by_words(table)
        for thing in range(len(table)):
            paper = to_crown(table, thing)
            self.assertIs(type(paper), tuple)
            if thing in wanted:
                kind, order, chain = paper
                self.assertEqual(kind, "order")
                self.check_order(table, "ahead", thing, order)
                self.assertIs(type(chain), list)
                self.assertEqual(chain, chain_behind(table, order))
                self.assertEqual(chain[0], thing)
            else:
                self.assertEqual((len(paper), paper[0]), (2, "beaten"))
                self.assertTrue(all(type(pair) is tuple and type(pair[0]) is list for pair in paper[1]))
                self.assertTrue(holds_by_words(table, thing, paper, chains))

    def test_by_hand(self):
        line = [[False, False], [True, False]]
        self.assertEqual(to_stand([[False]], 0), ("order", [0]))
        self.assertEqual(to_crown([[False]], 0), ("order", [0], [0]))
        self.assertEqual(to_rest([[False]], 0), ("order", [0]))
        self.assertEqual(to_stand(line, 0), ("shut", [1]))
        self.assertEqual(to_rest(line, 0), ("shut", [1]))
        self.assertEqual(to_crown(line, 0), ("beaten", [([0], 1)]))
        self.assertIn(to_stand(line, 1), (("order", [0, 1]), ("order", [1, 0])))
        self.assertIn(to_crown(line, 1), (("order", [1, 0], [1, 0]), ("order", [0, 1], [1])))
        self.assertEqual(to_crown(FOUR, 2)[0], "beaten")
        self.assertEqual(to_stand(FOUR, 2)[0], "order")

    def test_to_stand_and_to_rest(self):
        for table in tables_of_all_sizes():
            self.check_rings(table, "plain", to_stand)
            self.check_rings(table, "rest", to_rest)

    def test_to_crown(self):
        for table in tables_of_all_sizes():
            self.check_crowns(table)

    def test_a_thing_that_is_uncovered_and_no_crown(self):
        kind, pairs = to_crown(SEVEN, 3)
        self.assertEqual(kind, "beaten")
        self.assertEqual(sorted(pairs), [([3, 0, 1], 4), ([3, 1, 2], 6), ([3, 2, 0], 5)])
        self.assertEqual(to_stand(SEVEN, 3)[0], "order")
        self.assertEqual(to_rest(SEVEN, 3)[0], "order")

    def test_tables_with_one_ring_and_with_several_are_among_them(self):
        for many in range(3, 9):
            counts = [len(rings(table)) for table in tables_of_all_sizes() if len(table) == many]
            self.assertTrue(min(counts) == 1 and max(counts) > 1)

    def test_no_other_order_brings_what_cannot_be_had(self):
        for table in all_tables(4) + [thin_ring(5)] + all_tables(5)[::97]:
            orders = [list(order) for order in permutations(range(len(table)))]
            for kind, asking in zip(KINDS, (to_stand, to_crown, to_rest)):
                had = {led_to(table, kind, order) for order in orders}
                for thing in range(len(table)):
                    self.assertEqual(asking(table, thing)[0] == "order", thing in had)


class Brings(unittest.TestCase):
    def test_by_hand(self):
        self.assertEqual([brings(FOUR, kind, [0, 1, 2, 3]) for kind in KINDS], [3, 1, 0])
        self.assertEqual([brings(FOUR, kind, [3, 2, 1, 0]) for kind in KINDS], [0, 3, 3])
        self.assertEqual([brings([[False]], kind, [0]) for kind in KINDS], [0, 0, 0])

    def test_the_three_kinds(self):
        for table in tables_of_all_sizes():
            for order in some_orders(len(table), 3):
                for kind in KINDS:
                    self.assertEqual(brings(table, kind, order), led_to(table, kind, order))

    def test_another_kind_is_unknown_also_beside_a_list_that_is_no_order(self):
        for table in few_tables():
            many = len(table)
            orders = [list(range(many)), [], [0] * (many + 1), list(range(many + 1)), [-1] * many, [10 ** 40]]
            for order in orders:
                for kind in NO_KINDS:
                    check_refused(self, Unknown, brings, table, kind, order)

    def test_lists_that_are_no_orders_of_the_table(self):
        for table in few_tables():
            for order in no_orders(len(table)):
                for kind in KINDS:
                    check_refused(self, BadOrder, brings, table, kind, order)


class Kept(unittest.TestCase):
    def test_nothing_handed_in_changes_and_the_answer_stays(self):
        for table in few_tables():
            for thing in range(len(table)):
                for asking in (to_stand, to_crown, to_rest):
                    check_kept(self, asking, deepcopy(table), thing)
            for order in some_orders(len(table), 4):
                for kind in KINDS:
                    check_kept(self, brings, deepcopy(table), kind, list(order))

    def test_order_and_chain_of_a_paper_are_lists_of_their_own(self):
        for table in few_tables():
            for thing in crowns_by_words(table):
                paper = to_crown(table, thing)
                order = list(paper[1])
                paper[2].append("spoilt")
                self.assertEqual(paper[1], order)


if __name__ == "__main__":
    unittest.main()
