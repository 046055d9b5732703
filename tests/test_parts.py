"""8.1 and 8.2: what stands together, closures, and the parts of a table, with 0.2 and 0.6 for them."""

import unittest
from copy import deepcopy

from askorder.parts import closure, parts, stands_together
from samples import (
    FOUR, SEVEN, all_tables, check_kept, comes_to, few_tables, nested, nested_tables, some_tables, stacked, subsets,
    table_of_rings, tables_of_all_sizes, tables_with_rings, thin_ring, together_by_words,
)


def sets_together(table):
    """All sets that stand together, out of all sets of at least one thing."""
    return [things for things in subsets(range(len(table))) if things and together_by_words(table, things)]


def rings_by_words(table):
    comes = comes_to(table)
    things = range(len(table))
    found = [[other for other in things if comes[one][other] and comes[other][one]] for one in things]
    unlike = [ring for one, ring in enumerate(found) if ring[0] == one]
    return sorted(unlike, key=lambda ring: -sum(comes[ring[0]]))


def parts_by_words(table):
    """8.2 by its words, out of all sets that stand together."""
    found = rings_by_words(table)
    if len(found) > 1 or len(table) == 1:
        return found
    sets = [things for things in sets_together(table) if len(things) < len(table)]
    return sorted(one for one in sets if not any(set(one) < set(other) for other in sets))


class StandsTogether(unittest.TestCase):
    def test_by_hand(self):
        # 0 beats 1; both beat 2, 2 beats 3, and 3 beats both.
        table = nested(thin_ring(3), [[[False, True], [False, False]], [[False]], [[False]]])
        self.assertIs(stands_together(table, [0, 1]), True)
        self.assertIs(stands_together(table, [1, 0]), True)
        self.assertIs(stands_together(table, [0, 2]), False)
        self.assertIs(stands_together(table, [2, 3]), False)
        self.assertIs(stands_together(table, [1, 2, 3]), False)
        self.assertIs(stands_together([[False]], [0]), True)

    def test_each_thing_alone_and_all_things_do(self):
        for table in tables_of_all_sizes() + nested_tables():
            many = len(table)
            self.assertTrue(all(stands_together(table, [thing]) is True for thing in range(many)))
            self.assertIs(stands_together(table, list(range(many))), True)
            self.assertIs(stands_together(table, list(range(many))[::-1]), True)

    def test_all_sets_of_things(self):
        for table in few_tables() + nested_tables() + all_tables(4) + all_tables(3):
            for things in subsets(range(len(table))):
                if things:
                    wanted = together_by_words(table, things)
                    self.assertIs(stands_together(table, things), wanted)
                    self.assertIs(stands_together(table, things[::-1]), wanted)


class Closure(unittest.TestCase):
    def check_closure(self, table, things, sets):
        told = closure(table, things)
        self.assertIs(type(told), list)
        wider = [one for one in sets if set(things) <= set(one)]
        self.assertEqual(told, min(wider, key=len))
        self.assertTrue(all(set(told) <= set(one) for one in wider))

    def test_by_hand(self):
        table = nested(thin_ring(3), [[[False, True], [False, False]], [[False]], [[False]]])
        self.assertEqual(closure(table, [0]), [0])
        self.assertEqual(closure(table, [1, 0]), [0, 1])
        self.assertEqual(closure(table, [2, 0]), [0, 1, 2, 3])
        self.assertEqual(closure(FOUR, [0, 3]), [0, 1, 2, 3])
        self.assertEqual(closure(FOUR, [2, 1]), [1, 2])

    def test_one_thing_and_all_things_are_their_own(self):
        for table in few_tables() + nested_tables():
            many = len(table)
            self.assertEqual([closure(table, [thing]) for thing in range(many)], [[thing] for thing in range(many)])
            self.assertEqual(closure(table, list(range(many))[::-1]), list(range(many)))

    def test_the_least_set_that_stands_together(self):
        for table in all_tables(3) + all_tables(4) + nested_tables() + some_tables(6, 5) + tables_with_rings():
            sets = sets_together(table)
            for things in subsets(range(len(table))):
                if things:
                    self.check_closure(table, things[::-1], sets)

    def test_it_grows_step_by_step(self):
        # Each thing is beaten by the one ahead of it and beats all further ones: so it is let in behind that one.
        for many in range(3, 9):
            self.assertEqual(closure(thin_ring(many), [1, 0]), list(range(many)))
        falling = [[one < other for other in range(8)] for one in range(8)]
        self.assertEqual(closure(falling, [6, 1]), [1, 2, 3, 4, 5, 6])


class Parts(unittest.TestCase):
    def check_parts(self, table):
        told = parts(table)
        self.assertIs(type(told), list)
        self.assertTrue(all(type(one) is list and one == sorted(one) for one in told))
        self.assertEqual(sorted(thing for one in told for thing in one), list(range(len(table))))
        self.assertTrue(all(together_by_words(table, one) for one in told))
        self.assertEqual(told, parts_by_words(table))
        return told

    def test_by_hand(self):
        self.assertEqual(parts([[False]]), [[0]])
        self.assertEqual(parts([[False, False], [True, False]]), [[1], [0]])
        self.assertEqual(parts(thin_ring(3)), [[0], [1], [2]])
        self.assertEqual(parts(FOUR), [[0], [1, 2], [3]])
        self.assertEqual(parts(SEVEN), [[thing] for thing in range(7)])

    def test_several_rings(self):
        self.assertEqual(parts(stacked([thin_ring(3), [[False]], thin_ring(4)])), [[0, 1, 2], [3], [4, 5, 6, 7]])
        for sizes in ((1, 1), (1, 3), (3, 1), (3, 1, 4), (1, 3, 1, 3), (5, 3), (1,) * 8):
            told = self.check_parts(table_of_rings(sizes))
            self.assertEqual([len(one) for one in told], list(sizes))

    def test_one_ring(self):
        # Its parts are told by their least things, whichever of them beats which.
        one, two = [[False]], [[False, True], [False, False]]
        table = nested(thin_ring(3), [one, two, thin_ring(3)])
        self.assertEqual(parts(table), [[0], [1, 2], [3, 4, 5]])
        order = [5, 1, 3, 0, 4, 2]
        self.assertEqual(parts([[table[here][there] for there in order] for here in order]), [[0, 2, 4], [1, 5], [3]])

    def test_parts_within_parts_are_not_told(self):
        inner = nested(thin_ring(3), [thin_ring(3), [[False]], [[False]]])
        self.assertEqual(parts(nested(thin_ring(3), [inner, [[False]], [[False]]])), [[0, 1, 2, 3, 4], [5], [6]])
        several = stacked([thin_ring(3), [[False]], [[False]]])
        self.assertEqual(parts(nested(thin_ring(3), [[[False]], several, [[False]]])), [[0], [1, 2, 3, 4, 5], [6]])

    def test_tables_of_all_sizes(self):
        for table in tables_of_all_sizes() + nested_tables():
            self.check_parts(table)

    def test_all_tables_of_five_things_with_one_ring(self):
        for table in all_tables(5)[::3]:
            if len(rings_by_words(table)) == 1:
                self.check_parts(table)


class Kept(unittest.TestCase):
    def test_nothing_handed_in_changes_and_the_answer_stays(self):
        for table in few_tables() + nested_tables():
            check_kept(self, parts, deepcopy(table))
            for things in subsets(range(len(table)))[1::17]:
                check_kept(self, stands_together, deepcopy(table), things[::-1])
                check_kept(self, closure, deepcopy(table), things[::-1])


if __name__ == "__main__":
    unittest.main()
