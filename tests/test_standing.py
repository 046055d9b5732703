"""9.3: how a thing stands in a table, raising it in one ballot, and what raising keeps, with 0.2, 0.5 and 0.6."""

import unittest
from copy import deepcopy

from askorder.covers import uncovered
from askorder.errors import NothingLeft
from askorder.standing import raised_votes, standing_of
from askorder.tables import votes_for
from askorder.votes import table_of
from askorder.weighing import is_even, weighing
from samples import (
    FOUR, SEVEN, check_kept, check_refused, crowns_by_words, few_tables, made_odd, nested_tables, order_number,
    some_votes, table_of_rings, tables_of_all_sizes, thin_ring, top_by_words,
)

MOST = 10 ** 30


def standing_by_words(table, thing):
    weights = weighing(table)
    assert is_even(table, weights)
    return (
        thing in top_by_words(table), thing in uncovered(table), thing in crowns_by_words(table), weights[thing] > 0,
    )


def close_votes(many, seed):
    """Votes in which one voice more or less turns many pairs: for each order there is the order turned round."""
    votes = []
    for place in range(4):
        order = order_number(many, seed * 6007 + place * 10007)
        votes.extend([(1 + place, order), (1 + place, order[::-1])])
    return votes + [(1, order_number(many, seed * 31 + 5))]


def some_families():
    """Pairs of votes, odd in all, and the number of their things."""
    families = []
    for many in range(1, 9):
        for seed in range(3):
            families.append((close_votes(many, seed), many))
            families.append((made_odd(some_votes(many, 4, seed)), many))
    for table in (FOUR, SEVEN, thin_ring(5), table_of_rings((3, 1)), nested_tables()[3]):
        families.append((votes_for(table)[:9], len(table)))
    return families


class StandingOf(unittest.TestCase):
    def test_by_hand(self):
        self.assertEqual(standing_of([[False]], 0), (True, True, True, True))
        self.assertEqual(standing_of([[False, True], [False, False]], 0), (True, True, True, True))
        self.assertEqual(standing_of([[False, True], [False, False]], 1), (False, False, False, False))
        self.assertEqual(standing_of(FOUR, 2), (True, False, False, False))
        self.assertEqual(standing_of(FOUR, 3), (True, True, True, True))

    def test_a_thing_that_is_uncovered_and_no_crown(self):
        self.assertEqual(standing_of(SEVEN, 3), (True, True, False, False))
        self.assertEqual(standing_of(SEVEN, 4), (True, True, True, False))
        self.assertEqual(standing_of(SEVEN, 0), (True, True, True, True))
        self.assertEqual(standing_of(SEVEN, 1), (True, False, False, False))

    def test_each_thing_of_tables_of_all_sizes(self):
        for table in tables_of_all_sizes() + nested_tables():
            for thing in range(len(table)):
                told = standing_of(table, thing)
                self.assertTrue(type(told) is tuple and all(type(mark) is bool for mark in told))
                self.assertEqual(told, standing_by_words(table, thing))


class RaisedVotes(unittest.TestCase):
    def test_by_hand(self):
        votes = [(3, (0, 1, 2)), (4, (1, 2, 0)), (MOST, (2, 0, 1))]
        self.assertEqual(raised_votes(votes, 0, 2), [(3, (0, 2, 1)), (4, (1, 2, 0)), (MOST, (2, 0, 1))])
        self.assertEqual(raised_votes(votes, 1, 0), [(3, (0, 1, 2)), (4, (1, 0, 2)), (MOST, (2, 0, 1))])
        self.assertEqual(raised_votes(votes, 2, 0), [(3, (0, 1, 2)), (4, (1, 2, 0)), (MOST, (0, 2, 1))])

    def test_one_ballot_alone_changes(self):
        for many in range(1, 9):
            for seed in range(3):
                votes = some_votes(many, 5, seed)
                for place, (voices, order) in enumerate(votes):
                    for at, thing in enumerate(order):
                        if at == 0:
                            check_refused(self, NothingLeft, raised_votes, votes, place, thing)
                            continue
                        changed = list(order)
                        changed[at - 1], changed[at] = changed[at], changed[at - 1]
                        wanted = list(votes)
                        wanted[place] = (voices, tuple(changed))
                        self.assertEqual(raised_votes(votes, place, thing), wanted)

    def test_the_same_ballot_several_times(self):
        self.assertEqual(raised_votes([(1, (0, 1))] * 3, 1, 1), [(1, (0, 1)), (1, (1, 0)), (1, (0, 1))])

    def test_votes_whose_voices_are_even(self):
        self.assertEqual(raised_votes([(2, (0, 1))], 0, 1), [(2, (1, 0))])


class WhatRaisingKeeps(unittest.TestCase):
    def test_none_of_the_four_that_was_true_is_false_behind_it(self):
        kept = [0, 0, 0, 0]
        turned = 0
        for votes, many in some_families():
            before = table_of(votes, many)
            standings = [standing_of(before, thing) for thing in range(many)]
            for place, (voices, order) in enumerate(votes):
                for thing in order[1:]:
                    after = table_of(raised_votes(votes, place, thing), many)
                    turned += after != before
                    for mark, (was, stays) in enumerate(zip(standings[thing], standing_of(after, thing))):
                        self.assertTrue(stays or not was)
                        kept[mark] += was and after != before
        self.assertGreater(turned, 100)
        self.assertGreater(min(kept), 20)

    def test_step_by_step_up_to_the_best_place_of_each_ballot(self):
        for votes, many in some_families()[::3]:
            for thing in range(many):
                standing = standing_of(table_of(votes, many), thing)
                raised = list(votes)
                for place in range(len(votes)):
                    while raised[place][1][0] != thing:
                        raised = raised_votes(raised, place, thing)
                    later = standing_of(table_of(raised, many), thing)
                    self.assertTrue(all(stays or not was for was, stays in zip(standing, later)))
                    standing = later
                self.assertEqual(standing, (True, True, True, True))


class Kept(unittest.TestCase):
    def test_nothing_handed_in_changes_and_the_answer_stays(self):
        for table in few_tables():
            for thing in range(len(table)):
                check_kept(self, standing_of, deepcopy(table), thing)
        for many in range(2, 9):
            votes = some_votes(many, 3, many)
            check_kept(self, raised_votes, list(votes), 1, votes[1][1][1])


if __name__ == "__main__":
    unittest.main()
