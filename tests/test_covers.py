"""2.4 and 2.5, with 0.2, 0.3 and 0.6 for covers."""

import unittest
from copy import deepcopy
from itertools import permutations

from askorder.covers import covers, reason, uncovered
from samples import (
    FOUR, SEVEN, all_tables, check_kept, few_tables, tables_of_all_sizes, thin_ring, top_by_words,
)


def covers_by_words(table, one, other):
    beaten = [third for third in range(len(table)) if table[other][third]]
    return table[one][other] and all(table[one][third] for third in beaten)


class Covers(unittest.TestCase):
    def test_by_hand(self):
        pairs = [(one, other) for one in range(4) for other in range(4) if covers(FOUR, one, other)]
        self.assertEqual(pairs, [(1, 2)])
        self.assertIs(covers([[False, True], [False, False]], 0, 1), True)
        self.assertIs(covers([[False, True], [False, False]], 1, 0), False)

    def test_a_thing_and_itself(self):
        for table in tables_of_all_sizes():
            for one in range(len(table)):
                self.assertIs(covers(table, one, one), False)

    def test_each_two_things(self):
        for table in tables_of_all_sizes() + all_tables(5):
            for one, other in permutations(range(len(table)), 2):
                self.assertIs(covers(table, one, other), covers_by_words(table, one, other))

    def test_who_covers_what_covers_a_third_covers_the_third(self):
        for table in tables_of_all_sizes():
            for one, other, third in permutations(range(len(table)), 3):
                if covers(table, one, other) and covers(table, other, third):
                    self.assertIs(covers(table, one, third), True)


class Uncovered(unittest.TestCase):
    def test_by_hand(self):
        self.assertEqual(uncovered([[False]]), [0])
        self.assertEqual(uncovered([[False, False], [True, False]]), [1])
        self.assertEqual(uncovered(FOUR), [0, 1, 3])
        self.assertEqual(uncovered(thin_ring(3)), [0, 1, 2])
        self.assertEqual(uncovered(SEVEN), [0, 3, 4, 5, 6])

    def test_just_the_things_that_none_covers(self):
        for table in tables_of_all_sizes() + all_tables(5):
            many = len(table)
            told = uncovered(table)
            self.assertIs(type(told), list)
            wanted = [one for one in range(many) if not any(covers_by_words(table, other, one) for other in range(many))]
            self.assertEqual(told, wanted)

    def test_one_at_least_and_all_in_the_top_ring(self):
        for table in tables_of_all_sizes() + all_tables(5):
            told = uncovered(table)
            self.assertGreaterEqual(len(told), 1)
            self.assertLessEqual(set(told), set(top_by_words(table)))


class Reason(unittest.TestCase):
    def test_by_hand(self):
        self.assertEqual(reason(FOUR, 0, 1), ("straight",))
        self.assertEqual(reason(FOUR, 0, 3), ("over", 1))
        self.assertEqual(reason(FOUR, 1, 0), ("over", 3))
        self.assertEqual(reason(FOUR, 2, 1), ("covered",))
        self.assertEqual(reason(FOUR, 2, 0), ("over", 3))
        self.assertEqual(reason([[False, False], [True, False]], 0, 1), ("covered",))
        self.assertEqual(reason([[False, False], [True, False]], 1, 0), ("straight",))

    def test_just_one_of_the_three_with_the_least_third(self):
        for table in tables_of_all_sizes() + all_tables(5):
            for one, other in permutations(range(len(table)), 2):
                told = reason(table, one, other)
                self.assertIs(type(told), tuple)
                thirds = [third for third in range(len(table)) if table[one][third] and table[third][other]]
                if table[one][other]:
                    self.assertEqual(told, ("straight",))
                elif thirds:
                    self.assertEqual(told, ("over", min(thirds)))
                    self.assertFalse(covers_by_words(table, other, one))
                else:
                    self.assertEqual(told, ("covered",))
                    self.assertTrue(covers_by_words(table, other, one))


class Kept(unittest.TestCase):
    def test_nothing_handed_in_changes_and_the_answer_stays(self):
        for table in few_tables():
            check_kept(self, uncovered, deepcopy(table))
            for one, other in permutations(range(len(table)), 2):
                check_kept(self, covers, deepcopy(table), one, other)
                check_kept(self, reason, deepcopy(table), one, other)


if __name__ == "__main__":
    unittest.main()
