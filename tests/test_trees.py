"""4.1 and 4.4, with 0.2, 0.3, 0.5 and 0.6 for trees."""

import unittest

from askorder.errors import BadOrder
from askorder.trees import is_good, rest_tree, standing_tree, things_in
from samples import check_kept, check_refused, depth_of, full_tree, some_orders, some_trees

GREAT = 10 ** 40

# Lists that tell each of the things 0 to their length less one not just once.
NO_ORDERS = [
    [], [1], [-1], [2], [GREAT], [0, 0], [1, 1], [0, 2], [1, 2], [-1, 0], [0, -1], [0, GREAT], [0, 1, 1], [1, 0, 0],
    [0, 1, 3], [1, 2, 3], [3, 1, 2], [2, 1, -1], [0, 1, -3], [0, 1, 2, 4], [3, 2, 1, 1], [0, 1, 2, 3, 4, 5, 6, 8],
    [7, 6, 5, 4, 3, 2, 1, 1], [8, 7, 6, 5, 4, 3, 2, 1], [0, 0, 0, 0, 0, 0, 0, 0], [1, 0, 2, 3, 4, 5, 6, -7],
]


def numbers_by_words(tree):
    return numbers_by_words(tree[0]) | numbers_by_words(tree[1]) if isinstance(tree, tuple) else {tree}


def replaced(tree, place, number):
    """The tree with another number at this place of its numbers, counted from the left; and how many it has."""
    if not isinstance(tree, tuple):
        return (number if place == 0 else tree), 1
    left, count = replaced(tree[0], place, number)
    right, further = replaced(tree[1], place - count, number)
    return (left, right), count + further


class Samples(unittest.TestCase):
    def test_trees_of_all_depths_are_asked_about(self):
        for many in range(1, 9):
            trees = some_trees(many)
            self.assertEqual({depth_of(tree) for tree in trees}, set(range(10)))
            self.assertIn(set(range(many)), [numbers_by_words(tree) for tree in trees])


class IsGood(unittest.TestCase):
    def test_a_number(self):
        for many in range(1, 9):
            for number in range(many):
                self.assertIs(is_good(number, many), True)
            for number in (many, many + 1, -1, -many, GREAT, -GREAT):
                self.assertIs(is_good(number, many), False)

    def test_by_hand(self):
        self.assertIs(is_good((0, 1), 2), True)
        self.assertIs(is_good((0, 1), 1), False)
        self.assertIs(is_good((1, 0), 1), False)
        self.assertIs(is_good(((0, 0), (0, (0, 0))), 1), True)
        self.assertIs(is_good(((0, 0), (0, (0, -1))), 1), False)
        self.assertIs(is_good(((0, GREAT), (0, (0, 0))), 8), False)

    def test_trees_of_things(self):
        for many in range(1, 9):
            for tree in some_trees(many):
                self.assertIs(is_good(tree, many), True)
                for fewer in range(1, many):
                    self.assertIs(is_good(tree, fewer), max(numbers_by_words(tree)) < fewer)

    def test_one_number_that_is_no_thing_wherever_it_stands(self):
        for many in range(1, 9):
            for tree in some_trees(many):
                count = replaced(tree, -1, 0)[1]
                for place in range(0, count, 1 + count // 6):
                    for number in (many, -1, GREAT, -GREAT):
                        self.assertIs(is_good(replaced(tree, place, number)[0], many), False)

    def test_how_deep_it_is_does_not_matter(self):
        tree = full_tree(9, [0, 1, 2])
        self.assertIs(is_good(tree, 3), True)
        self.assertIs(is_good((tree, 2), 3), True)
        self.assertIs(is_good((tree, 3), 3), False)


class ThingsIn(unittest.TestCase):
    def test_by_hand(self):
        self.assertEqual(things_in(5), [5])
        self.assertEqual(things_in(-1), [-1])
        self.assertEqual(things_in(GREAT), [GREAT])
        self.assertEqual(things_in((3, 0)), [0, 3])
        self.assertEqual(things_in(((7, 1), (1, (7, 7)))), [1, 7])
        self.assertEqual(things_in(((GREAT, 1), (-GREAT, (8, 1)))), [-GREAT, 1, 8, GREAT])

    def test_each_once_and_rising(self):
        for many in range(1, 9):
            for tree in some_trees(many):
                told = things_in(tree)
                self.assertIs(type(told), list)
                self.assertEqual(told, sorted(numbers_by_words(tree)))

    def test_numbers_that_are_no_things(self):
        for tree in some_trees(5):
            for number in (5, 10, -1, GREAT):
                changed = replaced(tree, 0, number)[0]
                self.assertEqual(things_in(changed), sorted(numbers_by_words(changed)))


class TreesOfOrders(unittest.TestCase):
    def test_by_hand(self):
        self.assertEqual(standing_tree([0]), 0)
        self.assertEqual(rest_tree([0]), 0)
        self.assertEqual(standing_tree([1, 0]), (1, 0))
        self.assertEqual(rest_tree([1, 0]), (1, 0))
        self.assertEqual(standing_tree([2, 0, 1]), ((2, 1), (0, 1)))
        self.assertEqual(rest_tree([2, 0, 1]), (2, (0, 1)))
        self.assertEqual(standing_tree([3, 1, 0, 2]), (((3, 2), (0, 2)), ((1, 2), (0, 2))))
        self.assertEqual(rest_tree([3, 1, 0, 2]), (3, (1, (0, 2))))

    def check_standing(self, tree, order):
        if len(order) == 1:
            self.assertEqual(tree, order[0])
            self.assertIs(type(tree), int)
            return
        self.assertIs(type(tree), tuple)
        left, right = tree
        self.check_standing(left, [order[0]] + order[2:])
        self.check_standing(right, order[1:])

    def check_rest(self, tree, order):
        for thing in order[:-1]:
            self.assertIs(type(tree), tuple)
            first, tree = tree
            self.assertEqual(first, thing)
            self.assertIs(type(first), int)
        self.assertEqual(tree, order[-1])
        self.assertIs(type(tree), int)

    def test_orders_of_all_lengths(self):
        for many in range(1, 9):
            for order in some_orders(many, 12):
                self.check_standing(standing_tree(order), order)
                self.check_rest(rest_tree(order), order)
                for tree in (standing_tree(order), rest_tree(order)):
                    self.assertEqual(things_in(tree), list(range(many)))
                    self.assertIs(is_good(tree, many), True)
                    self.assertEqual(depth_of(tree), many - 1)

    def test_any_other_list_is_refused(self):
        for order in NO_ORDERS:
            with self.subTest(order=order):
                check_refused(self, BadOrder, standing_tree, order)
                check_refused(self, BadOrder, rest_tree, order)

    def test_orders_with_a_thing_left_out_told_twice_or_none(self):
        for many in range(2, 9):
            for order in some_orders(many, 4):
                greatest = order.index(many - 1)
                wrong = [order + [order[0]], order + [many + 1], order[:greatest] + [many] + order[greatest + 1:]]
                wrong.append([thing for thing in order if thing != 0])
                for place in range(many):
                    wrong.append(order[:place] + [order[place - 1]] + order[place + 1:])
                for changed in wrong:
                    check_refused(self, BadOrder, standing_tree, changed)
                    check_refused(self, BadOrder, rest_tree, changed)

    def test_true_and_false_are_no_numbers_of_things(self):
        check_refused(self, BadOrder, standing_tree, [False])
        check_refused(self, BadOrder, rest_tree, [0, True])


class Kept(unittest.TestCase):
    def test_nothing_handed_in_changes_and_the_answer_stays(self):
        for many in range(1, 9):
            for tree in some_trees(many):
                check_kept(self, is_good, tree, many)
                check_kept(self, is_good, (tree, many), many)
                check_kept(self, things_in, tree)
            for order in some_orders(many, 6):
                check_kept(self, standing_tree, list(order))
                check_kept(self, rest_tree, list(order))


if __name__ == "__main__":
    unittest.main()
