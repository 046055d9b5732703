"""4.2 and 4.5 to 4.7, with 0.2, 0.5 and 0.6 for those who look ahead."""

import unittest
from copy import deepcopy

from askorder.ahead import ahead_end, chain_behind, last_standing
from askorder.errors import BadOrder, BadTree
from askorder.plain import plain_end
from askorder.tables import votes_for
from askorder.trees import rest_tree, standing_tree
from askorder.votes import table_of
from samples import (
    FOUR, SEVEN, check_kept, check_refused, dominates, few_tables, full_tree, has_beater, is_chain_by_words, made_odd,
    no_orders, some_orders, some_trees, some_votes, tables_of_all_sizes, thin_ring,
)


def end_by_words(table, tree):
    if not isinstance(tree, tuple):
        return tree
    left, right = [end_by_words(table, side) for side in tree]
    return left if left == right or table[left][right] else right


def tables_and_orders():
    pairs = []
    for place, table in enumerate(tables_of_all_sizes()):
        for order in some_orders(len(table), 3 + place % 3):
            pairs.append((table, order))
    return pairs


class AheadEnd(unittest.TestCase):
    def test_by_hand(self):
        self.assertEqual(ahead_end(FOUR, 2), 2)
        self.assertEqual(ahead_end(FOUR, (0, 1)), 0)
        self.assertEqual(ahead_end(FOUR, (1, 0)), 0)
        self.assertEqual(ahead_end(FOUR, (0, 3)), 3)
        self.assertEqual(ahead_end(FOUR, ((0, 3), (1, 2))), 1)
        self.assertEqual(ahead_end(FOUR, (0, (3, (1, 2)))), 0)

    def test_both_ends_the_same_thing(self):
        self.assertEqual(ahead_end([[False]], (0, 0)), 0)
        self.assertEqual(ahead_end(FOUR, (2, 2)), 2)
        self.assertEqual(ahead_end(FOUR, ((0, 3), (3, 3))), 3)
        self.assertEqual(ahead_end(FOUR, ((0, 1), (2, 0))), 0)

    def test_each_two_ends(self):
        for table in tables_of_all_sizes():
            for one in range(len(table)):
                self.assertEqual(ahead_end(table, one), one)
                for other in range(len(table)):
                    wanted = one if one == other or table[one][other] else other
                    self.assertEqual(ahead_end(table, (one, other)), wanted)

    def test_trees_of_all_depths(self):
        for table in few_tables():
            for tree in some_trees(len(table)):
                self.assertEqual(ahead_end(table, tree), end_by_words(table, tree))

    def test_bad_trees(self):
        for table in few_tables():
            many = len(table)
            for tree in (many, -1, 10 ** 40, (0, many), (many, 0), (0, (0, (-1, 0))), ((0, 10 ** 40), 0), (many, many)):
                check_refused(self, BadTree, ahead_end, table, tree)
            check_refused(self, BadTree, ahead_end, table, full_tree(9, [0] * 511 + [many]))


class LastStanding(unittest.TestCase):
    def test_by_hand(self):
        self.assertEqual(last_standing([[False]], [0]), 0)
        self.assertEqual(last_standing(FOUR, [0, 1, 2, 3]), 3)
        self.assertEqual(last_standing(FOUR, [3, 2, 1, 0]), 0)
        self.assertEqual(last_standing(FOUR, [3, 0, 2, 1]), 1)

    def test_where_plain_voters_come_to_in_the_standing_tree(self):
        for table, order in tables_and_orders():
            wanted = plain_end(votes_for(table), len(table), standing_tree(order))
            self.assertEqual(last_standing(table, order), wanted)

    def test_other_votes_too(self):
        for many in range(1, 9):
            for seed in range(6):
                votes = made_odd(some_votes(many, 5 + seed, seed))
                for order in some_orders(many, 5):
                    wanted = plain_end(votes, many, standing_tree(order))
                    self.assertEqual(last_standing(table_of(votes, many), order), wanted)


class ChainBehind(unittest.TestCase):
    def test_by_hand(self):
        self.assertEqual(chain_behind([[False]], [0]), [0])
        self.assertEqual(chain_behind(thin_ring(3), [0, 1, 2]), [1, 2])
        self.assertEqual(chain_behind(FOUR, [0, 1, 2, 3]), [1, 2, 3])
        self.assertEqual(chain_behind(FOUR, [3, 2, 1, 0]), [3, 0])
        self.assertEqual(chain_behind(SEVEN, [2, 6, 5, 4, 3, 0, 1]), [4, 3, 0, 1])

    def test_it_is_a_chain_that_stands_and_ends_with_the_last_thing(self):
        for table, order in tables_and_orders():
            told = chain_behind(table, order)
            self.assertIs(type(told), list)
            self.assertTrue(is_chain_by_words(table, told))
            self.assertFalse(has_beater(table, told))
            self.assertEqual(told[-1], order[-1])

    def test_just_those_are_in_it_that_beat_all_of_it_behind_them(self):
        for table, order in tables_and_orders():
            told = chain_behind(table, order)
            self.assertEqual(told, [thing for thing in order if thing in told])
            for place, thing in enumerate(order):
                behind = [other for other in order[place + 1:] if other in told]
                self.assertIs(thing in told, dominates(table, thing, behind))

    def test_its_head_is_where_those_who_look_ahead_come_to(self):
        for table, order in tables_and_orders():
            wanted = end_by_words(table, standing_tree(order))
            self.assertEqual(chain_behind(table, order)[0], wanted)
            self.assertEqual(ahead_end(table, standing_tree(order)), wanted)


class RestTree(unittest.TestCase):
    def test_it_comes_to_the_last_one_standing_in_the_order_turned_round(self):
        for table, order in tables_and_orders():
            wanted = end_by_words(table, rest_tree(order))
            self.assertEqual(last_standing(table, order[::-1]), wanted)
            self.assertEqual(ahead_end(table, rest_tree(order)), wanted)


class Refused(unittest.TestCase):
    def test_lists_that_are_no_orders_of_the_table(self):
        for table in few_tables():
            for order in no_orders(len(table)):
                check_refused(self, BadOrder, last_standing, table, order)
                check_refused(self, BadOrder, chain_behind, table, order)


class Kept(unittest.TestCase):
    def test_nothing_handed_in_changes_and_the_answer_stays(self):
        for table in few_tables():
            for tree in some_trees(len(table))[::4]:
                check_kept(self, ahead_end, deepcopy(table), tree)
            for order in some_orders(len(table), 4):
                check_kept(self, last_standing, deepcopy(table), list(order))
                check_kept(self, chain_behind, deepcopy(table), list(order))


if __name__ == "__main__":
    unittest.main()
