"""2.1 to 2.3, with 0.2 to 0.6 for rings."""

import unittest
from copy import deepcopy
from itertools import combinations

from askorder.errors import NotTop
from askorder.rings import reached, rings, round_of, row_from, top_ring, way
from samples import (
    RING_SIZES, SEVEN, all_tables, check_kept, check_refused, comes_to, dominates, each_beats_the_next, few_tables,
    ring_order, some_tables, subsets, table_of_rings, tables_of_all_sizes, thin_ring, top_by_words,
)

# 4 beats all; 0, 2 and 3 beat 1, and one another in a round: 0 beats 3, 3 beats 2, 2 beats 0.
THREE_RINGS = [
    [False, True, False, True, False],
    [False, False, False, False, False],
    [True, True, False, False, False],
    [False, True, True, False, False],
    [True, True, True, True, False],
]


def distances(table):
    """How many things the shortest way has, for each two; None where there is no way."""
    many = len(table)
    far = 10 ** 6
    steps = [[0 if one == other else (1 if table[one][other] else far) for other in range(many)] for one in range(many)]
    for over in range(many):
        for one in range(many):
            for other in range(many):
                steps[one][other] = min(steps[one][other], steps[one][over] + steps[over][other])
    return [[None if step >= far else step + 1 for step in row] for row in steps]


def plain_list(test, told):
    test.assertIs(type(told), list)
    for thing in told:
        test.assertIs(type(thing), int)


class Reached(unittest.TestCase):
    def test_by_hand(self):
        self.assertEqual([reached(THREE_RINGS, one) for one in range(5)],
                         [[0, 1, 2, 3], [1], [0, 1, 2, 3], [0, 1, 2, 3], [0, 1, 2, 3, 4]])
        self.assertEqual(reached([[False]], 0), [0])
        self.assertEqual(reached([[False, False], [True, False]], 0), [0])
        self.assertEqual(reached([[False, False], [True, False]], 1), [0, 1])

    def test_just_the_things_to_which_one_comes(self):
        for table in tables_of_all_sizes() + all_tables(5):
            comes = comes_to(table)
            for one in range(len(table)):
                told = reached(table, one)
                plain_list(self, told)
                self.assertEqual(told, [other for other in range(len(table)) if comes[one][other]])
                self.assertIn(one, told)


class Way(unittest.TestCase):
    def test_by_hand(self):
        self.assertEqual(way(THREE_RINGS, 4, 1), [4, 1])
        self.assertEqual(way(THREE_RINGS, 0, 2), [0, 3, 2])
        self.assertIsNone(way(THREE_RINGS, 1, 0))
        self.assertIsNone(way(THREE_RINGS, 0, 4))
        self.assertEqual(way(thin_ring(8), 0, 7), [0, 1, 2, 3, 4, 5, 6, 7])
        self.assertEqual(way([[False]], 0, 0), [0])

    def test_a_thing_and_itself(self):
        for table in tables_of_all_sizes():
            for one in range(len(table)):
                self.assertEqual(way(table, one, one), [one])

    def test_as_few_things_as_any_or_none(self):
        for table in tables_of_all_sizes() + all_tables(5):
            fewest = distances(table)
            for one in range(len(table)):
                for other in range(len(table)):
                    told = way(table, one, other)
                    if fewest[one][other] is None:
                        self.assertIsNone(told)
                        continue
                    plain_list(self, told)
                    self.assertEqual((told[0], told[-1]), (one, other))
                    self.assertEqual(len(told), fewest[one][other])
                    self.assertEqual(len(set(told)), len(told))
                    self.assertTrue(each_beats_the_next(table, told))

    def test_more_things_than_the_bounds(self):
        self.assertEqual(way(thin_ring(10), 0, 9), list(range(10)))
        self.assertEqual(reached(thin_ring(10), 4), list(range(10)))


class Rings(unittest.TestCase):
    def test_by_hand(self):
        self.assertEqual(rings(THREE_RINGS), [[4], [0, 2, 3], [1]])
        self.assertEqual(top_ring(THREE_RINGS), [4])
        self.assertEqual(rings([[False]]), [[0]])
        self.assertEqual(rings([[False, False], [True, False]]), [[1], [0]])
        self.assertEqual(rings(SEVEN), [[0, 1, 2, 3, 4, 5, 6]])
        self.assertEqual(top_ring(SEVEN), [0, 1, 2, 3, 4, 5, 6])

    def test_tables_made_of_rings(self):
        for sizes in RING_SIZES:
            told = rings(table_of_rings(sizes))
            self.assertEqual([len(ring) for ring in told], list(sizes))
            # Ahead of the mixing up, the rings are numbered on from the top down.
            order = ring_order(sizes)
            first = 0
            for size, ring in zip(sizes, told):
                self.assertEqual(sorted(order[thing] for thing in ring), list(range(first, first + size)))
                first += size

    def test_each_two_lie_in_one_ring_just_where_each_comes_to_the_other(self):
        for table in tables_of_all_sizes() + all_tables(5):
            comes = comes_to(table)
            told = rings(table)
            self.assertIs(type(told), list)
            self.assertEqual(sorted(sum(told, [])), list(range(len(table))))
            for ring in told:
                plain_list(self, ring)
                self.assertEqual(ring, sorted(ring))
                self.assertTrue(all(comes[one][other] for one in ring for other in ring))
                self.assertNotEqual(len(ring), 2)
            for upper, lower in combinations(told, 2):
                self.assertTrue(all(dominates(table, one, lower) for one in upper))
                self.assertFalse(any(comes[other][one] for one in upper for other in lower))
            self.assertEqual(top_ring(table), told[0])
            self.assertEqual(top_ring(table), top_by_words(table))

    def test_no_smaller_set_beats_all_outside_it(self):
        for table in tables_of_all_sizes():
            top = top_ring(table)
            for things in subsets(range(len(table))):
                outside = [thing for thing in range(len(table)) if thing not in things]
                if things and len(things) <= len(top) and all(dominates(table, one, outside) for one in things):
                    self.assertEqual(things, top)


class Rows(unittest.TestCase):
    def check(self, table):
        top = top_by_words(table)
        for one in range(len(table)):
            if one not in top:
                check_refused(self, NotTop, row_from, table, one)
                continue
            row = row_from(table, one)
            plain_list(self, row)
            self.assertEqual(row[0], one)
            self.assertEqual(sorted(row), list(range(len(table))))
            self.assertTrue(each_beats_the_next(table, row))

    def test_by_hand(self):
        self.assertEqual(row_from([[False]], 0), [0])
        self.assertEqual(row_from([[False, False], [True, False]], 1), [1, 0])
        self.assertIn(row_from(THREE_RINGS, 4), ([4, 0, 3, 2, 1], [4, 3, 2, 0, 1], [4, 2, 0, 3, 1]))
        self.assertEqual(row_from(thin_ring(3), 1), [1, 2, 0])

    def test_for_each_thing_of_the_top_ring_and_no_other(self):
        for table in tables_of_all_sizes() + all_tables(5):
            self.check(table)

    def test_what_is_no_thing_lies_in_no_top_ring(self):
        for table in some_tables(5, 5):
            for number in (-1, 5, 10 ** 40):
                check_refused(self, NotTop, row_from, table, number)

    def test_more_things_than_the_bounds(self):
        for table in some_tables(10, 5) + [thin_ring(9), thin_ring(10)]:
            self.check(table)


class Rounds(unittest.TestCase):
    def check(self, table):
        for ring in rings(table):
            told = round_of(table, ring)
            plain_list(self, told)
            self.assertEqual(sorted(told), ring)
            self.assertEqual(told[0], ring[0])
            if len(ring) > 1:
                self.assertGreaterEqual(len(ring), 3)
                self.assertTrue(each_beats_the_next(table, told + told[:1]))

    def test_by_hand(self):
        self.assertEqual(round_of(THREE_RINGS, [4]), [4])
        self.assertEqual(round_of(THREE_RINGS, [0, 2, 3]), [0, 3, 2])
        self.assertEqual(round_of(THREE_RINGS, [1]), [1])
        self.assertEqual(round_of([[False]], [0]), [0])
        self.assertEqual(round_of(thin_ring(8), list(range(8))), list(range(8)))

    def test_each_ring(self):
        for table in tables_of_all_sizes() + all_tables(5) + some_tables(6, 400):
            self.check(table)

    def test_what_is_told_is_not_what_was_handed_in(self):
        ring = [4]
        self.assertIsNot(round_of(THREE_RINGS, ring), ring)

    def test_more_things_than_the_bounds(self):
        for table in some_tables(10, 5) + [thin_ring(9), thin_ring(10)]:
            self.check(table)


class Kept(unittest.TestCase):
    def test_nothing_handed_in_changes_and_the_answer_stays(self):
        for table in few_tables():
            check_kept(self, rings, deepcopy(table))
            check_kept(self, top_ring, deepcopy(table))
            for ring in rings(table):
                check_kept(self, round_of, deepcopy(table), ring)
            for one in top_ring(table):
                check_kept(self, row_from, deepcopy(table), one)
            for one in range(len(table)):
                check_kept(self, reached, deepcopy(table), one)
                for other in range(len(table)):
                    check_kept(self, way, deepcopy(table), one, other)


if __name__ == "__main__":
    unittest.main()
