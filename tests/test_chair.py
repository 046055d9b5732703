"""5.1 to 5.5: what can be had of each kind, and the best for a chair's wish, with 0.2, 0.5 and 0.6 for them."""

import unittest
from copy import deepcopy
from itertools import permutations

from askorder.chair import best_for, can_be_had
from askorder.covers import uncovered
from askorder.errors import BadOrder, Unknown
from askorder.orders import brings
from kinds import KINDS, NO_KINDS, led_to
from samples import (
    FOUR, SEVEN, all_tables, check_kept, check_refused, crowns_by_words, few_tables, no_orders, some_orders,
    tables_of_all_sizes, thin_ring, top_by_words,
)


def had_by_words(table, kind):
    return crowns_by_words(table) if kind == "ahead" else top_by_words(table)


def had_by_all_orders(table, kind):
    return sorted({led_to(table, kind, list(order)) for order in permutations(range(len(table)))})


class CanBeHad(unittest.TestCase):
    def test_by_hand(self):
        line = [[False, True], [False, False]]
        for kind in KINDS:
            self.assertEqual(can_be_had([[False]], kind), [0])
            self.assertEqual(can_be_had(line, kind), [0])
        self.assertEqual([can_be_had(FOUR, kind) for kind in KINDS], [[0, 1, 2, 3], [0, 1, 3], [0, 1, 2, 3]])
        everything = [0, 1, 2, 3, 4, 5, 6]
        self.assertEqual([can_be_had(SEVEN, kind) for kind in KINDS], [everything, [0, 4, 5, 6], everything])

    def test_what_is_told_is_just_what_can_be_had(self):
        for table in tables_of_all_sizes():
            for kind in KINDS:
                had = can_be_had(table, kind)
                self.assertIs(type(had), list)
                self.assertEqual(had, had_by_words(table, kind))

    def test_set_against_all_orders(self):
        tables = [table for many in range(1, 5) for table in all_tables(many)]
        for table in tables + [thin_ring(5)] + all_tables(5)[::97]:
            for kind in KINDS:
                self.assertEqual(can_be_had(table, kind), had_by_all_orders(table, kind))

    def test_what_can_be_had_ahead_is_uncovered_and_that_can_be_had_plainly(self):
        for table in tables_of_all_sizes():
            open_ones = uncovered(table)
            self.assertLessEqual(set(can_be_had(table, "ahead")), set(open_ones))
            self.assertLessEqual(set(open_ones), set(can_be_had(table, "plain")))

    def test_another_kind_is_unknown(self):
        for table in few_tables():
            for kind in NO_KINDS:
                check_refused(self, Unknown, can_be_had, table, kind)


class BestFor(unittest.TestCase):
    def check_best(self, table, kind, wish, had):
        told = best_for(table, kind, wish)
        self.assertIs(type(told), tuple)
        thing, order = told
        self.assertEqual(thing, next(wished for wished in wish if wished in had))
        self.assertIs(type(order), list)
        self.assertEqual(sorted(order), list(range(len(table))))
        self.assertEqual(brings(table, kind, order), thing)
        return order

    def test_by_hand(self):
        for kind in KINDS:
            self.assertEqual(best_for([[False]], kind, [0]), (0, [0]))
        self.assertEqual([best_for(FOUR, kind, [2, 3, 0, 1])[0] for kind in KINDS], [2, 3, 2])
        self.assertEqual([best_for(FOUR, kind, [1, 2, 3, 0])[0] for kind in KINDS], [1, 1, 1])
        self.assertEqual([best_for(SEVEN, kind, [3, 2, 1, 5, 6, 4, 0])[0] for kind in KINDS], [3, 5, 3])

    def test_the_first_thing_of_the_wish_that_can_be_had(self):
        for table in tables_of_all_sizes():
            for kind in KINDS:
                had = had_by_words(table, kind)
                for wish in some_orders(len(table), 5):
                    self.check_best(table, kind, wish, had)

    def test_also_the_last_thing_of_the_wish(self):
        for many in range(2, 9):
            falling = [[one < other for other in range(many)] for one in range(many)]
            for kind in KINDS:
                self.check_best(falling, kind, list(reversed(range(many))), [0])

    def test_set_against_all_orders(self):
        for table in all_tables(3) + all_tables(4)[::3] + [thin_ring(5)]:
            for kind in KINDS:
                had = had_by_all_orders(table, kind)
                for wish in some_orders(len(table), 20):
                    order = self.check_best(table, kind, wish, had)
                    self.assertEqual(led_to(table, kind, order), wish[min(wish.index(thing) for thing in had)])

    def test_another_kind_is_unknown_also_beside_a_list_that_is_no_order(self):
        for table in few_tables():
            many = len(table)
            for wish in [list(range(many)), [], [0] * (many + 1), list(range(1, many + 1)), [-1] * many, [10 ** 40]]:
                for kind in NO_KINDS:
                    check_refused(self, Unknown, best_for, table, kind, wish)

    def test_wishes_that_are_no_orders_of_the_table(self):
        for table in few_tables():
            for wish in no_orders(len(table)):
                for kind in KINDS:
                    check_refused(self, BadOrder, best_for, table, kind, wish)


class Kept(unittest.TestCase):
    def test_nothing_handed_in_changes_and_the_answer_stays(self):
        for table in few_tables():
            for kind in KINDS:
                check_kept(self, can_be_had, deepcopy(table), kind)
                for wish in some_orders(len(table), 4):
                    check_kept(self, best_for, deepcopy(table), kind, list(wish))


if __name__ == "__main__":
    unittest.main()
