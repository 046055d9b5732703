"""7.4: pairing sums and kernels, with 0.2 and 0.6 for them."""

import unittest
from copy import deepcopy
from itertools import combinations

from askorder.pairings import kernel, pairing_sum
from samples import all_tables, check_kept, renumbered, some_tables, tables_of_all_sizes


def all_pairings(things):
    """All ways to part these things into pairs, lesser thing first."""
    if not things:
        return [[]]
    pairings = []
    for mate in things[1:]:
        others = [thing for thing in things[1:] if thing != mate]
        pairings.extend([[(things[0], mate)] + rest for rest in all_pairings(others)])
    return pairings


def cross(one, other):
    """The lesser of the one lies between the two of the other, and its greater outside them."""
    return other[0] < one[0] < other[1] and not other[0] < one[1] < other[1]


def worth(table, pairing):
    product = 1
    for lesser, greater in pairing:
        product *= 1 if table[lesser][greater] else -1
    for one, other in combinations(pairing, 2):
        if cross(one, other) or cross(other, one):
            product *= -1
    return product


def sum_by_words(table):
    return sum(worth(table, pairing) for pairing in all_pairings(list(range(len(table)))))


def kernel_by_words(table):
    numbers = []
    for place in range(len(table)):
        others = [thing for thing in range(len(table)) if thing != place]
        numbers.append(sum_by_words(renumbered(table, others)) * (-1 if place % 2 == 1 else 1))
    return numbers


def scores(table, numbers):
    def sign(one, other):
        return 1 if table[one][other] else -1 if table[other][one] else 0

    things = range(len(table))
    return [sum(sign(one, other) * numbers[other] for other in things) for one in things]


def determinant(rows):
    """By the first row, for whole numbers."""
    if not rows:
        return 1
    total = 0
    for place, number in enumerate(rows[0]):
        total += (-1) ** place * number * determinant([row[:place] + row[place + 1:] for row in rows[1:]])
    return total


class PairingSum(unittest.TestCase):
    def test_by_hand(self):
        self.assertEqual(pairing_sum([]), 1)
        self.assertEqual(pairing_sum([[False, True], [False, False]]), 1)
        self.assertEqual(pairing_sum([[False, False], [True, False]]), -1)
        falling = [[one < other for other in range(4)] for one in range(4)]
        # Three pairings, of which that of 0 and 2 with 1 and 3 crosses.
        self.assertEqual(pairing_sum(falling), 1 - 1 + 1)
        falling[0][2], falling[2][0] = False, True
        self.assertEqual(pairing_sum(falling), 3)

    def test_the_pairings_gone_through_are_all(self):
        self.assertEqual([len(all_pairings(list(range(many)))) for many in (0, 2, 4, 6, 8)], [1, 1, 3, 15, 105])

    def test_all_tables_of_few_things(self):
        for table in all_tables(2) + all_tables(4):
            self.assertEqual(pairing_sum(table), sum_by_words(table))

    def test_tables_of_six_and_of_eight_things(self):
        for table in some_tables(6, 150) + some_tables(8, 60):
            self.assertEqual(pairing_sum(table), sum_by_words(table))

    def test_other_tables_of_an_even_number_of_things(self):
        for table in tables_of_all_sizes():
            if len(table) % 2 == 0:
                told = pairing_sum(table)
                self.assertIs(type(told), int)
                self.assertEqual(told, sum_by_words(table))

    def test_always_odd(self):
        for table in all_tables(2) + all_tables(4) + all_tables(6)[::131] + some_tables(8, 60):
            self.assertEqual(pairing_sum(table) % 2, 1)

    def test_two_things_exchanged_turn_the_sign(self):
        for table in some_tables(4, 10) + some_tables(6, 10) + some_tables(8, 10):
            many = len(table)
            for place in range(many - 1):
                order = list(range(many))
                order[place], order[place + 1] = place + 1, place
                self.assertEqual(pairing_sum(renumbered(table, order)), -pairing_sum(table))

    def test_its_square_is_the_determinant(self):
        for table in all_tables(4)[::5] + some_tables(6, 20):
            many = range(len(table))
            rows = [[0 if one == other else 1 if table[one][other] else -1 for other in many] for one in many]
            self.assertEqual(pairing_sum(table) ** 2, determinant(rows))


class Kernel(unittest.TestCase):
    def tables(self):
        few = all_tables(1) + all_tables(3) + all_tables(5)[::3]
        return few + [table for table in tables_of_all_sizes() if len(table) % 2 == 1]

    def test_by_hand(self):
        self.assertEqual(kernel([[False]]), [1])
        ring = [[False, True, False], [False, False, True], [True, False, False]]
        self.assertEqual(kernel(ring), [1, 1, 1])
        falling = [[one < other for other in range(3)] for one in range(3)]
        self.assertEqual(kernel(falling), [1, -1, 1])

    def test_set_against_the_pairings_gone_through(self):
        for table in self.tables():
            told = kernel(table)
            self.assertIs(type(told), list)
            self.assertEqual(told, kernel_by_words(table))

    def test_each_score_under_it_is_nought(self):
        for table in self.tables() + some_tables(7, 60):
            told = kernel(table)
            self.assertEqual(len(told), len(table))
            self.assertEqual(scores(table, told), [0] * len(table))

    def test_each_number_is_odd(self):
        for table in self.tables():
            self.assertTrue(all(number % 2 == 1 for number in kernel(table)))


class Kept(unittest.TestCase):
    def test_nothing_handed_in_changes_and_the_answer_stays(self):
        check_kept(self, pairing_sum, [])
        for many in range(1, 9):
            for table in some_tables(many, 6):
                check_kept(self, pairing_sum if many % 2 == 0 else kernel, deepcopy(table))


if __name__ == "__main__":
    unittest.main()
