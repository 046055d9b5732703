"""1.4 to 1.6, with 0.2, 0.3 and 0.6 for tables."""

import unittest
from copy import deepcopy
from itertools import permutations, product

from askorder.tables import beaten_by, beaters_of, is_full, part, turned, votes_for
from askorder.votes import table_of
from samples import FOUR, all_tables, check_kept, pair_count, some_tables, tables_of_all_sizes

ROUND = [[False, True, False], [False, False, True], [True, False, False]]


def lists_of_things(many):
    """Lists of unlike things, at least one, in any order; for many things only some of them."""
    lists = []
    for length in range(1, many + 1):
        chosen = list(permutations(range(many), length))
        lists.extend(chosen[::1 + len(chosen) // 12])
        lists.append(chosen[-1])
    return [list(things) for things in lists]


class IsFull(unittest.TestCase):
    def test_full_tables(self):
        for table in tables_of_all_sizes():
            self.assertIs(is_full(table), True)

    def test_more_things_than_the_bounds(self):
        self.assertIs(is_full([[one < other for other in range(10)] for one in range(10)]), True)

    def test_no_row(self):
        self.assertIs(is_full([]), False)

    def test_a_row_too_short_or_too_long(self):
        self.assertIs(is_full([[]]), False)
        self.assertIs(is_full([[False, False]]), False)
        self.assertIs(is_full([[False, True]]), False)
        for table in tables_of_all_sizes():
            for place in range(len(table)):
                for row in (table[place][:-1], table[place][1:], [], table[place] + [False], table[place] + [True]):
                    rows = table[:place] + [row] + table[place + 1:]
                    self.assertIs(is_full(rows), False)

    def test_a_row_too_few_or_too_many(self):
        for table in tables_of_all_sizes():
            many = len(table)
            self.assertIs(is_full(table[:-1]), False)
            self.assertIs(is_full(table[1:]), False)
            self.assertIs(is_full(table + [[False] * many]), False)
            self.assertIs(is_full(table + [[True] * many]), False)
            self.assertIs(is_full(table + [[True] * many + [False]]), False)

    def test_true_at_its_own_place(self):
        for table in tables_of_all_sizes():
            for one in range(len(table)):
                rows = deepcopy(table)
                rows[one][one] = True
                self.assertIs(is_full(rows), False)

    def test_two_that_beat_each_other_or_of_which_none_beats_the_other(self):
        for table in tables_of_all_sizes():
            for one, other in permutations(range(len(table)), 2):
                rows = deepcopy(table)
                rows[one][other] = not rows[one][other]
                self.assertIs(is_full(rows), False)

    def test_just_the_full_ones_of_all_square_lists(self):
        for many in range(1, 5):
            full = 0
            for marks in product((False, True), repeat=many * many):
                full += is_full([list(marks[many * one:many * one + many]) for one in range(many)])
            self.assertEqual(full, 2 ** pair_count(many))

    def test_whole_numbers_are_not_true_and_false(self):
        self.assertIs(is_full([[0]]), False)
        self.assertIs(is_full([[False, 1], [False, False]]), False)
        self.assertIs(is_full([[False, True], [0, False]]), False)


class Part(unittest.TestCase):
    def test_by_hand(self):
        self.assertEqual(part(FOUR, [3, 0]), [[False, True], [False, False]])
        self.assertEqual(part(FOUR, [0, 3]), [[False, False], [True, False]])
        self.assertEqual(part(FOUR, [2, 0, 3]), [[False, False, True], [True, False, False], [False, True, False]])

    def test_on_one(self):
        for table in tables_of_all_sizes():
            for one in range(len(table)):
                self.assertEqual(part(table, [one]), [[False]])

    def test_on_all(self):
        for table in tables_of_all_sizes():
            told = part(table, list(range(len(table))))
            self.assertEqual(told, table)
            self.assertIsNot(told, table)
            for one in range(len(table)):
                self.assertIsNot(told[one], table[one])

    def test_things_are_numbered_by_their_places(self):
        for many in range(1, 9):
            for table in some_tables(many, 6):
                for things in lists_of_things(many):
                    told = part(table, things)
                    self.assertTrue(is_full(told))
                    self.assertEqual(len(told), len(things))
                    for place, one in enumerate(things):
                        for behind, other in enumerate(things):
                            self.assertIs(told[place][behind], table[one][other])


class Turned(unittest.TestCase):
    def test_by_hand(self):
        self.assertEqual(turned([[False]]), [[False]])
        self.assertEqual(turned([[False, True], [False, False]]), [[False, False], [True, False]])
        self.assertEqual(turned(ROUND), [[False, False, True], [True, False, False], [False, True, False]])

    def test_each_beating_is_turned_round(self):
        for table in tables_of_all_sizes():
            told = turned(table)
            self.assertTrue(is_full(told))
            for one, other in permutations(range(len(table)), 2):
                self.assertIs(told[one][other], not table[one][other])

    def test_turned_twice(self):
        for table in tables_of_all_sizes():
            twice = turned(turned(table))
            self.assertEqual(twice, table)
            self.assertIsNot(twice, table)


class Beating(unittest.TestCase):
    def test_by_hand(self):
        self.assertEqual([beaten_by(FOUR, one) for one in range(4)], [[1, 2], [2, 3], [3], [0]])
        self.assertEqual([beaters_of(FOUR, one) for one in range(4)], [[3], [0], [0, 1], [1, 2]])
        self.assertEqual(beaten_by([[False]], 0), [])
        self.assertEqual(beaters_of([[False]], 0), [])

    def test_rising_lists_for_each_thing(self):
        for table in tables_of_all_sizes():
            for one in range(len(table)):
                beaten = beaten_by(table, one)
                beaters = beaters_of(table, one)
                self.assertEqual(beaten, [other for other in range(len(table)) if table[one][other]])
                self.assertEqual(beaters, [other for other in range(len(table)) if table[other][one]])
                self.assertEqual(sorted(beaten + beaters + [one]), list(range(len(table))))
                self.assertTrue(all(type(other) is int for other in beaten + beaters))


class VotesFor(unittest.TestCase):
    def check(self, table):
        many = len(table)
        votes = votes_for(table)
        self.assertIs(type(votes), list)
        self.assertLessEqual(len(votes), many * (many - 1) + 1)
        for ballot in votes:
            self.assertIs(type(ballot), tuple)
            count, order = ballot
            self.assertEqual(count, 1)
            self.assertIs(type(count), int)
            self.assertIs(type(order), tuple)
            self.assertEqual(sorted(order), list(range(many)))
        self.assertEqual(table_of(votes, many), table)

    def test_all_tables_of_1_to_5_things(self):
        for many in range(1, 6):
            for table in all_tables(many):
                self.check(table)

    def test_some_tables_of_6_to_8_things(self):
        for many in range(6, 9):
            for table in some_tables(many, 60):
                self.check(table)

    def test_orders_straight_on_and_backwards(self):
        for many in range(1, 9):
            self.check([[one < other for other in range(many)] for one in range(many)])
            self.check([[one > other for other in range(many)] for one in range(many)])


class Kept(unittest.TestCase):
    def test_nothing_handed_in_changes_and_the_answer_stays(self):
        for many in range(1, 9):
            for table in some_tables(many, 5):
                for asking in (is_full, turned, votes_for):
                    check_kept(self, asking, deepcopy(table))
                for one in range(many):
                    check_kept(self, beaten_by, deepcopy(table), one)
                    check_kept(self, beaters_of, deepcopy(table), one)
                for things in lists_of_things(many):
                    check_kept(self, part, deepcopy(table), things)

    def test_lists_that_are_no_full_tables_stay_as_they_were(self):
        for rows in ([], [[]], [[True]], [[False, True]], [[False, True], [True, False]], [[False], [True, False]]):
            check_kept(self, is_full, rows)


if __name__ == "__main__":
    unittest.main()
