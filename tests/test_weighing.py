"""7.1 to 7.3: scores, even weights, the even weighing and plays, with 0.2 and 0.6 for them."""

import unittest
from copy import deepcopy
from itertools import product
from math import gcd

from askorder.covers import uncovered
from askorder.weighing import is_even, play, score, weighing
from samples import (
    FOUR, SEVEN, all_tables, check_kept, few_tables, mixed_up, nested_tables, some_tables, tables_of_all_sizes,
    tables_with_rings, thin_ring,
)

HUGE = 10 ** 40


def score_by_words(table, weights, thing):
    total = 0
    for other, weight in enumerate(weights):
        if table[thing][other]:
            total += weight
        elif table[other][thing]:
            total -= weight
    return total


def even_by_words(table, weights):
    if any(weight < 0 for weight in weights) or not any(weights):
        return False
    for thing, weight in enumerate(weights):
        told = score_by_words(table, weights, thing)
        if (weight > 0 and told != 0) or (weight == 0 and told >= 0):
            return False
    return True


def play_by_words(table, weights, others):
    total = 0
    for one, weight in enumerate(weights):
        for other, against in enumerate(others):
            if table[one][other]:
                total += weight * against
            elif table[other][one]:
                total -= weight * against
    return total


def some_lists(many):
    """Lists of whole numbers, one for each thing: weights and others, small and of many figures."""
    lists = [[0] * many, [1] * many, [-1] * many, list(range(many)), [-thing for thing in range(many)]]
    lists.extend([[(seed * 37 + thing ** 2 * 11) % 5 for thing in range(many)] for seed in range(3)])
    lists.extend([[(seed * 41 + thing ** 3 * 7) % 9 - 4 for thing in range(many)] for seed in range(3)])
    lists.append([HUGE + thing for thing in range(many)])
    lists.append([(-1) ** thing * (HUGE - thing ** 2) for thing in range(many)])
    return lists


def all_sizes():
    return tables_of_all_sizes() + nested_tables()


class Score(unittest.TestCase):
    def test_by_hand(self):
        self.assertEqual(score([[False]], [7], 0), 0)
        self.assertEqual([score(FOUR, [1, 10, 100, 1000], thing) for thing in range(4)], [-890, 1099, 989, -109])
        self.assertEqual([score(FOUR, [1, -10, 0, HUGE], thing) for thing in range(4)],
                         [-10 - HUGE, HUGE - 1, HUGE + 9, 11])

    def test_by_words(self):
        for table in few_tables():
            for weights in some_lists(len(table)):
                for thing in range(len(table)):
                    self.assertEqual(score(table, weights, thing), score_by_words(table, weights, thing))


class IsEven(unittest.TestCase):
    def test_by_hand(self):
        ring = [[False, True, False], [False, False, True], [True, False, False]]
        self.assertIs(is_even([[False]], [1]), True)
        self.assertIs(is_even([[False]], [5]), True)
        self.assertIs(is_even([[False]], [0]), False)
        self.assertIs(is_even([[False]], [-1]), False)
        self.assertIs(is_even(ring, [1, 1, 1]), True)
        self.assertIs(is_even(ring, [HUGE] * 3), True)
        self.assertIs(is_even(ring, [1, 1, 2]), False)
        self.assertIs(is_even(ring, [1, 0, 0]), False)
        self.assertIs(is_even(ring, [0, 0, 0]), False)
        self.assertIs(is_even(ring, [-1, -1, -1]), False)
        self.assertIs(is_even([[False, True], [False, False]], [1, 0]), True)
        self.assertIs(is_even([[False, True], [False, False]], [0, 1]), False)
        self.assertIs(is_even([[False, True], [False, False]], [1, 1]), False)

    def test_a_thing_without_weight_whose_score_is_above_nought(self):
        # 0 beats 1, 1 beats 2, 2 beats 0; 3 beats 0, is beaten by 1 and beats 2.
        table = [
            [False, True, False, False],
            [False, False, True, True],
            [True, False, False, False],
            [True, False, True, False],
        ]
        self.assertEqual([score(table, [1, 1, 1, 0], thing) for thing in range(4)], [0, 0, 0, 1])
        self.assertIs(is_even(table, [1, 1, 1, 0]), False)

    def test_one_number_below_nought(self):
        falling = [[one < other for other in range(4)] for one in range(4)]
        self.assertIs(is_even(falling, [1, 0, 0, 0]), True)
        # The scores would do: nought for the first three, below nought for the last one.
        self.assertEqual([score(falling, [1, -1, 1, 0], thing) for thing in range(4)], [0, 0, 0, -1])
        for weights in ([1, -1, 1, 0], [1, 0, 0, -1], [-1, 0, 0, 0], [3, 0, -1, 0]):
            self.assertIs(is_even(falling, weights), False)

    def test_the_even_weighing_and_its_multiples(self):
        for table in all_sizes():
            weights = weighing(table)
            for times in (1, 2, 3, HUGE):
                self.assertIs(is_even(table, [times * weight for weight in weights]), True)
            for times in (0, -1, -HUGE):
                self.assertIs(is_even(table, [times * weight for weight in weights]), False)

    def test_one_number_changed(self):
        for table in few_tables():
            weights = weighing(table)
            for thing in range(len(table)):
                for more in (1, 2, -1, -2, HUGE, -HUGE):
                    changed = list(weights)
                    changed[thing] += more
                    self.assertIs(is_even(table, changed), even_by_words(table, changed))

    def test_by_words(self):
        for table in all_sizes():
            for weights in some_lists(len(table)):
                self.assertIs(is_even(table, weights), even_by_words(table, weights))


class Weighing(unittest.TestCase):
    def check_weighing(self, table):
        weights = weighing(table)
        self.assertIs(type(weights), list)
        self.assertEqual(len(weights), len(table))
        self.assertTrue(all(type(weight) is int for weight in weights))
        self.assertTrue(even_by_words(table, weights))
        self.assertIs(is_even(table, weights), True)
        self.assertEqual(gcd(*weights), 1)
        carriers = [thing for thing, weight in enumerate(weights) if weight > 0]
        self.assertEqual(len(carriers) % 2, 1)
        self.assertTrue(all(weights[thing] % 2 == 1 for thing in carriers))
        self.assertLessEqual(set(carriers), set(uncovered(table)))
        return weights

    def test_by_hand(self):
        self.assertEqual(weighing([[False]]), [1])
        self.assertEqual(weighing([[False, False], [True, False]]), [0, 1])
        self.assertEqual(weighing([[False, True, False], [False, False, True], [True, False, False]]), [1, 1, 1])
        self.assertEqual(weighing(FOUR), [1, 1, 0, 1])
        self.assertEqual(weighing(SEVEN), [1, 0, 0, 0, 0, 1, 1])
        # Each beats the two that stand behind it in the round.
        five = [[(other - one) % 5 in (1, 2) for other in range(5)] for one in range(5)]
        self.assertEqual(weighing(five), [1, 1, 1, 1, 1])

    def test_tables_of_all_sizes(self):
        for table in all_sizes():
            self.check_weighing(table)

    def test_weights_above_one_are_among_them(self):
        greatest = {many: 0 for many in range(5, 9)}
        for many in greatest:
            for table in some_tables(many, 150):
                greatest[many] = max(greatest[many], max(self.check_weighing(table)))
        self.assertEqual(greatest[5], 3)
        self.assertTrue(all(greatest[many] > 3 for many in (7, 8)), greatest)

    def test_kernels_with_a_common_divisor_and_with_turned_signs(self):
        # Seven things in a round, each beating the three behind it: the pairing sums of six are no ones.
        seven = [[(other - one) % 7 in (1, 2, 3) for other in range(7)] for one in range(7)]
        for table in (seven, [[(other - one) % 7 in (1, 2, 4) for other in range(7)] for one in range(7)]):
            for seed in range(6):
                self.assertEqual(self.check_weighing(mixed_up(table, seed)), [1] * 7)

    def test_for_few_things_just_one_list_is_so(self):
        for many in range(1, 5):
            lists = [list(weights) for weights in product(range(4), repeat=many) if gcd(*weights) == 1]
            for table in all_tables(many):
                self.assertEqual([weights for weights in lists if even_by_words(table, weights)], [weighing(table)])

    def test_for_five_things_just_one_list_is_so(self):
        lists = [list(weights) for weights in product(range(4), repeat=5) if gcd(*weights) == 1]
        for table in all_tables(5)[::31] + [thin_ring(5)]:
            self.assertEqual([weights for weights in lists if even_by_words(table, weights)], [weighing(table)])

    def test_one_thing_that_beats_all(self):
        for many in range(1, 9):
            for top in range(many):
                table = [[one != other and (one == top or other != top and one < other) for other in range(many)]
                         for one in range(many)]
                self.assertEqual(weighing(table), [1 if thing == top else 0 for thing in range(many)])


class Play(unittest.TestCase):
    def test_by_hand(self):
        self.assertEqual(play([[False]], [3], [4]), 0)
        self.assertEqual(play([[False, True], [False, False]], [1, 0], [0, 1]), 1)
        self.assertEqual(play([[False, True], [False, False]], [0, 1], [1, 0]), -1)
        self.assertEqual(play([[False, True], [False, False]], [2, 5], [3, 7]), 14 - 15)
        self.assertEqual(play([[False, True], [False, False]], [HUGE, -1], [-HUGE, HUGE]), HUGE * HUGE - HUGE)

    def test_by_words_and_turned_round(self):
        for table in few_tables():
            lists = some_lists(len(table))
            for weights in lists:
                self.assertEqual(play(table, weights, weights), 0)
                for others in lists[::2]:
                    told = play(table, weights, others)
                    self.assertEqual(told, play_by_words(table, weights, others))
                    self.assertEqual(play(table, others, weights), -told)

    def test_the_even_weighing_loses_against_no_weights(self):
        for table in all_sizes():
            many = len(table)
            weights = weighing(table)
            for thing in range(many):
                self.assertGreaterEqual(play(table, weights, [int(other == thing) for other in range(many)]), 0)
            for others in some_lists(many):
                if min(others) >= 0:
                    self.assertGreaterEqual(play(table, weights, others), 0)


class Kept(unittest.TestCase):
    def test_nothing_handed_in_changes_and_the_answer_stays(self):
        for table in tables_with_rings():
            check_kept(self, weighing, deepcopy(table))
            for weights in some_lists(len(table))[::3] + [weighing(table)]:
                check_kept(self, score, deepcopy(table), list(weights), len(table) - 1)
                check_kept(self, is_even, deepcopy(table), list(weights))
                check_kept(self, play, deepcopy(table), list(weights), list(range(len(table))))


if __name__ == "__main__":
    unittest.main()
