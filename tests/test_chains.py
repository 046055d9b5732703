"""3.1 and 3.2, with 0.2, 0.3 and 0.6 for chains."""

import unittest
from copy import deepcopy
from itertools import permutations, product

from askorder.chains import beaters, grown, is_chain, stands
from samples import (
    SEVEN, chains_by_words, check_kept, dominates, few_tables, has_beater, is_chain_by_words, subsets,
    tables_of_all_sizes, thin_ring,
)


def lists_to_ask(many):
    """Lists of things: all with up to three places, things told twice among them, and some longer ones."""
    lists = []
    for length in range(4):
        lists.extend(product(range(many), repeat=length))
    for length in range(4, many + 1):
        chosen = list(permutations(range(many), length))
        lists.extend(chosen[::1 + len(chosen) // 20])
    return [list(things) for things in lists]


class IsChain(unittest.TestCase):
    def test_by_hand(self):
        self.assertIs(is_chain(SEVEN, [3]), True)
        self.assertIs(is_chain(SEVEN, [3, 0, 1]), True)
        self.assertIs(is_chain(SEVEN, [0, 3]), False)
        self.assertIs(is_chain(SEVEN, [0, 1, 2]), False)
        self.assertIs(is_chain(SEVEN, [6, 3, 1, 2]), True)
        self.assertIs(is_chain(SEVEN, [6, 3, 2, 1]), False)
        self.assertIs(is_chain(SEVEN, [6, 1, 3, 2]), False)

    def test_the_empty_list_is_none(self):
        for table in tables_of_all_sizes():
            self.assertIs(is_chain(table, []), False)

    def test_with_a_thing_twice_it_is_none(self):
        self.assertIs(is_chain([[False]], [0, 0]), False)
        self.assertIs(is_chain(SEVEN, [3, 3, 0, 1]), False)
        self.assertIs(is_chain(SEVEN, [3, 0, 1, 1]), False)
        for table in tables_of_all_sizes():
            for chain in chains_by_words(table)[:40]:
                for place in range(len(chain)):
                    for behind in range(len(chain) + 1):
                        self.assertIs(is_chain(table, chain[:behind] + [chain[place]] + chain[behind:]), False)

    def test_each_beats_all_behind_it(self):
        for table in tables_of_all_sizes():
            for things in lists_to_ask(len(table)):
                self.assertIs(is_chain(table, things), is_chain_by_words(table, things))

    def test_all_chains(self):
        for table in tables_of_all_sizes():
            for chain in chains_by_words(table):
                self.assertIs(is_chain(table, chain), True)
                if len(chain) > 1:
                    self.assertIs(is_chain(table, chain[::-1]), False)


class Beaters(unittest.TestCase):
    def test_by_hand(self):
        self.assertEqual(beaters(SEVEN, [3]), [4, 5, 6])
        self.assertEqual(beaters(SEVEN, [3, 0]), [4, 5])
        self.assertEqual(beaters(SEVEN, [3, 0, 1]), [4])
        self.assertEqual(beaters(SEVEN, [3, 0, 1, 2]), [])
        self.assertEqual(beaters(SEVEN, [0, 1, 2]), [3])
        self.assertEqual(beaters(SEVEN, [1, 1]), [0, 3, 4, 6])

    def test_all_things_for_the_empty_list(self):
        for table in tables_of_all_sizes():
            self.assertEqual(beaters(table, []), list(range(len(table))))

    def test_just_those_that_beat_each_of_them(self):
        for table in tables_of_all_sizes():
            for things in lists_to_ask(len(table)) + subsets(range(len(table))):
                told = beaters(table, things)
                self.assertIs(type(told), list)
                self.assertEqual(told, [one for one in range(len(table)) if dominates(table, one, things)])


class Stands(unittest.TestCase):
    def test_by_hand(self):
        self.assertIs(stands([[False]], [0]), True)
        self.assertIs(stands([[False, False], [True, False]], [0]), False)
        self.assertIs(stands([[False, False], [True, False]], [1]), True)
        self.assertIs(stands(SEVEN, [3, 0, 1]), False)
        self.assertIs(stands(SEVEN, [4, 3, 0, 1]), True)

    def test_lists_that_are_no_chain(self):
        # Nothing beats all of these lists, yet they are no chains.
        self.assertIs(stands(SEVEN, [3, 0, 1, 2]), False)
        self.assertIs(stands(thin_ring(3), [0, 1, 2]), False)
        self.assertIs(stands(thin_ring(3), [1, 0]), False)
        self.assertIs(stands([[False]], [0, 0]), False)
        self.assertIs(stands([[False]], []), False)

    def test_chains_without_a_beater(self):
        for table in tables_of_all_sizes():
            for things in lists_to_ask(len(table)) + chains_by_words(table):
                wanted = is_chain_by_words(table, things) and not has_beater(table, things)
                self.assertIs(stands(table, things), wanted)


class Grown(unittest.TestCase):
    def test_by_hand(self):
        self.assertEqual(grown([[False]], [0]), [0])
        self.assertEqual(grown([[False, False], [True, False]], [0]), [1, 0])
        self.assertEqual(grown(SEVEN, [3, 0, 1]), [4, 3, 0, 1])

    def test_it_ends_with_the_chain_and_stands(self):
        for table in tables_of_all_sizes():
            for chain in chains_by_words(table):
                told = grown(table, chain)
                self.assertIs(type(told), list)
                self.assertEqual(told[len(told) - len(chain):], chain)
                self.assertTrue(is_chain_by_words(table, told))
                self.assertFalse(has_beater(table, told))

    def test_a_chain_that_stands_is_told_as_a_copy(self):
        chain = [4, 3, 0, 1]
        told = grown(SEVEN, chain)
        self.assertEqual(told, chain)
        self.assertIsNot(told, chain)


class Kept(unittest.TestCase):
    def test_nothing_handed_in_changes_and_the_answer_stays(self):
        for table in few_tables():
            for things in lists_to_ask(len(table))[::37] + [[]]:
                for asking in (is_chain, beaters, stands):
                    check_kept(self, asking, deepcopy(table), list(things))
            for chain in chains_by_words(table)[::5]:
                for asking in (is_chain, beaters, stands, grown):
                    check_kept(self, asking, deepcopy(table), list(chain))


if __name__ == "__main__":
    unittest.main()
