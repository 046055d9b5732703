"""4.3, with 0.2, 0.4, 0.5 and 0.6 for plain voters."""

import unittest
from itertools import permutations

from askorder.errors import BadBallot, BadTree, Even
from askorder.plain import plain_end, side_asked, sides_gone
from samples import (
    check_kept, check_refused, full_tree, made_odd, order_number, some_trees, some_votes, wrong_orders,
)

MOST = 10 ** 30
ROUND = [(3, (0, 1, 2)), (4, (1, 2, 0)), (4, (2, 0, 1))]


def stands_in(thing, tree):
    return any(stands_in(thing, side) for side in tree) if isinstance(tree, tuple) else thing == tree


def side_by_words(order, tree):
    """The side in which the best of the things that stand in just one side stands, or the left one."""
    sides = [(stands_in(thing, tree[0]), stands_in(thing, tree[1])) for thing in order]
    just_one = [side for side in sides if side in ((True, False), (False, True))]
    return "right" if just_one and just_one[0] == (False, True) else "left"


def gone_by_words(votes, tree):
    """The sides gone into, and the thing that is left."""
    if not isinstance(tree, tuple):
        return [], tree
    asking = {"left": 0, "right": 0}
    for count, order in votes:
        asking[side_by_words(order, tree)] += count
    side = max(asking, key=asking.get)
    sides, end = gone_by_words(votes, tree[0] if side == "left" else tree[1])
    return [side] + sides, end


class SideAsked(unittest.TestCase):
    def test_the_best_stands_left(self):
        self.assertEqual(side_asked((0, 1), (0, 1)), "left")
        self.assertEqual(side_asked((1, 0), (1, 0)), "left")
        self.assertEqual(side_asked((2, 0, 1), ((0, 2), (0, 1))), "left")
        self.assertEqual(side_asked((0, 2, 1), ((0, 2), (0, 1))), "left")

    def test_the_best_stands_right(self):
        self.assertEqual(side_asked((1, 0), (0, 1)), "right")
        self.assertEqual(side_asked((0, 1, 2), ((0, 2), (0, 1))), "right")
        self.assertEqual(side_asked((1, 0, 2), ((0, 2), (0, 1))), "right")
        self.assertEqual(side_asked((0, 1, 2), (2, ((1, 1), 0))), "right")

    def test_the_best_one_of_all_stands_in_both(self):
        self.assertEqual(side_asked((0, 1, 2), (((0, 1), 1), (0, 2))), "left")
        self.assertEqual(side_asked((0, 2, 1), (((0, 1), 1), (0, 2))), "right")
        self.assertEqual(side_asked((0, 2, 1), (((0, 1), 2), (0, 2))), "left")
        self.assertEqual(side_asked((0, 2, 1), ((1, 2), ((0, 1), 2))), "right")

    def test_the_best_one_of_all_stands_in_none(self):
        self.assertEqual(side_asked((3, 1, 0, 2), (0, 1)), "right")
        self.assertEqual(side_asked((3, 2, 0, 1), (0, 1)), "left")

    def test_none_stands_in_just_one_side(self):
        self.assertEqual(side_asked((0, 1), (1, 1)), "left")
        self.assertEqual(side_asked((0, 1), ((0, 1), (1, 0))), "left")
        self.assertEqual(side_asked((1, 0), ((0, 1), (0, (1, 0)))), "left")

    def test_each_order_at_each_question(self):
        told = []
        for many in range(1, 9):
            orders = [order_number(many, number) for number in range(0, 40320, 5003)]
            if many < 4:
                orders = list(permutations(range(many)))
            for tree in some_trees(many):
                if isinstance(tree, tuple):
                    for order in orders:
                        told.append(side_asked(order, tree))
                        self.assertEqual(told[-1], side_by_words(order, tree))
        self.assertTrue(min(told.count("left"), told.count("right")) > 200)


class Gone(unittest.TestCase):
    def check(self, votes, many, tree):
        sides, end = gone_by_words(votes, tree)
        told = sides_gone(votes, many, tree)
        self.assertIs(type(told), list)
        self.assertEqual(told, sides)
        self.assertEqual(plain_end(votes, many, tree), end)
        self.assertIs(type(plain_end(votes, many, tree)), int)

    def test_by_hand(self):
        self.assertEqual(sides_gone(ROUND, 3, 2), [])
        self.assertEqual(plain_end(ROUND, 3, 2), 2)
        self.assertEqual(sides_gone(ROUND, 3, (1, 0)), ["right"])
        self.assertEqual(plain_end(ROUND, 3, (1, 0)), 0)
        # At the first question 2 and 1 stand in one side each: three and four voices are for 1.
        self.assertEqual(sides_gone(ROUND, 3, ((0, 2), (0, 1))), ["right", "left"])
        self.assertEqual(plain_end(ROUND, 3, ((0, 2), (0, 1))), 0)
        self.assertEqual(sides_gone(ROUND, 3, ((1, 1), (1, 1))), ["left", "left"])
        self.assertEqual(sides_gone(ROUND, 3, (0, (1, 2))), ["right", "left"])
        self.assertEqual(plain_end(ROUND, 3, (0, (1, 2))), 1)

    def test_one_voice_decides(self):
        for more in (0, 1):
            votes = [(MOST - 1 + more, (0, 1)), (MOST - more, (1, 0))]
            self.assertEqual(sides_gone(votes, 2, (0, 1)), ["left" if more else "right"])
            self.assertEqual(plain_end(votes, 2, (0, 1)), 0 if more else 1)

    def test_the_voices_of_all_ballots_count_and_not_the_ballots(self):
        votes = [(1, (0, 1))] * 90 + [(MOST, (1, 0)), (1, (0, 1))]
        self.assertEqual(plain_end(votes, 2, (0, 1)), 1)
        votes = [(MOST, (0, 1))] * 50 + [(MOST - 1, (1, 0))] * 49
        self.assertEqual(plain_end(votes, 2, (1, 0)), 0)

    def test_trees_of_all_depths(self):
        for many in range(1, 9):
            for place, tree in enumerate(some_trees(many)):
                self.check(made_odd(some_votes(many, 1 + place % 9, place)), many, tree)

    def test_99_ballots_of_many_voices(self):
        for many in range(1, 9):
            votes = [(MOST - count, order) for count, order in some_votes(many, 99, many)]
            votes = made_odd(votes)
            self.assertEqual(len(votes), 99)
            for tree in (full_tree(9, list(range(many))), (0, many - 1), ((many - 1, 0), (0, 0))):
                self.check(votes, many, tree)


class Refused(unittest.TestCase):
    def check(self, refusal, votes, many, tree):
        check_refused(self, refusal, sides_gone, votes, many, tree)
        check_refused(self, refusal, plain_end, votes, many, tree)

    def test_bad_ballots_ahead_of_all_else(self):
        for many in range(1, 9):
            good = (1, tuple(range(many)))
            for order in wrong_orders(many):
                for count in (1, 2):
                    for tree in (0, (0, many - 1), many, (0, -1)):
                        self.check(BadBallot, [(count, order)], many, tree)
                        self.check(BadBallot, [good, (count, order), good], many, tree)

    def test_even_voices_ahead_of_bad_trees(self):
        for many in range(1, 9):
            order = tuple(range(many))
            for votes in ([], [(2, order)], [(1, order), (3, order)], [(MOST, order)]):
                for tree in (0, (0, many - 1), many, (0, -1)):
                    self.check(Even, votes, many, tree)

    def test_bad_trees(self):
        for many in range(1, 9):
            votes = [(1, tuple(range(many)))]
            for tree in (many, -1, 10 ** 40, (0, many), (many, 0), (0, (0, (-1, 0))), ((0, 10 ** 40), 0)):
                self.check(BadTree, votes, many, tree)
            # The number that is no thing lies where no voice goes.
            self.check(BadTree, votes, many, (0, (0, many)))
            self.check(BadTree, votes, many, (full_tree(8, [0]), full_tree(8, [0] * 255 + [-1])))


class Kept(unittest.TestCase):
    def test_nothing_handed_in_changes_and_the_answer_stays(self):
        for many in range(1, 9):
            for place, tree in enumerate(some_trees(many)):
                votes = made_odd(some_votes(many, 1 + place % 7, place))
                check_kept(self, sides_gone, list(votes), many, tree)
                check_kept(self, plain_end, list(votes), many, tree)
                if isinstance(tree, tuple):
                    check_kept(self, side_asked, votes[0][1], tree)


if __name__ == "__main__":
    unittest.main()
