"""1.1 to 1.4 as far as votes go, with 0.2 to 0.6 for them."""

import unittest
from itertools import permutations

from askorder.errors import BadBallot, Even
from askorder.tables import is_full
from askorder.votes import asked, lead, table_of, voices
from samples import check_kept, check_refused, made_odd, order_number, some_votes, wrong_orders

MOST = 10 ** 30

# Of three things: 0 beats 1, 1 beats 2, 2 beats 0.
ROUND = [(3, (0, 1, 2)), (4, (1, 2, 0)), (4, (2, 0, 1))]


def counted_lead(votes, one, other):
    """The lead by its own words, voice by voice for one pair."""
    total = 0
    for count, order in votes:
        for thing in order:
            if thing == one:
                total += count
                break
            if thing == other:
                total -= count
                break
    return total


class Asked(unittest.TestCase):
    def test_good_votes_are_told_none(self):
        self.assertIsNone(asked(ROUND, 3))
        self.assertIsNone(asked([(1, (0,))], 1))
        self.assertIsNone(asked([(1, (1, 0)), (2, (0, 1))], 2))
        self.assertIsNone(asked([(MOST - 1, (0, 1)), (MOST, (1, 0)), (MOST, (1, 0))], 2))

    def test_every_order_is_good(self):
        for many in range(1, 6):
            for order in permutations(range(many)):
                self.assertIsNone(asked([(1, order)], many))
        for many in range(6, 9):
            for number in range(0, 40320, 611):
                self.assertIsNone(asked([(1, order_number(many, number))], many))

    def test_the_same_order_may_stand_several_times(self):
        self.assertIsNone(asked([(1, (1, 0))] * 99, 2))

    def test_wrong_orders_are_refused_wherever_they_stand(self):
        for many in range(1, 9):
            good = (1, tuple(range(many)))
            for order in wrong_orders(many):
                for count in (1, 2):
                    bad = (count, order)
                    for votes in ([bad], [bad, good, good], [good, bad, good], [good, good, bad]):
                        with self.subTest(many=many, votes=votes):
                            check_refused(self, BadBallot, asked, votes, many)
                            check_refused(self, BadBallot, table_of, votes, many)

    def test_good_orders_of_another_count_of_things_are_refused(self):
        for many in range(1, 9):
            for other in range(1, 9):
                if other != many:
                    check_refused(self, BadBallot, asked, [(1, tuple(range(other)))], many)

    def test_true_and_false_are_no_numbers_of_things(self):
        check_refused(self, BadBallot, asked, [(1, (0, True))], 2)
        check_refused(self, BadBallot, asked, [(1, (False, 1))], 2)

    def test_even_voices_are_refused(self):
        for votes in (
            [(2, (0, 1, 2))],
            [(1, (0, 1, 2)), (1, (2, 1, 0))],
            [(1, (0, 1, 2)), (2, (2, 1, 0)), (3, (2, 1, 0))],
            [(MOST, (0, 1, 2))],
            [(1, (0, 1, 2))] * 98,
        ):
            check_refused(self, Even, asked, votes, 3)
            check_refused(self, Even, table_of, votes, 3)

    def test_no_ballot_at_all_is_refused_as_even(self):
        for many in range(1, 9):
            check_refused(self, Even, asked, [], many)
            check_refused(self, Even, table_of, [], many)

    def test_more_than_the_bounds_is_not_refused(self):
        self.assertIsNone(asked([(1, tuple(range(9)))] * 101, 9))
        self.assertIsNone(asked([(MOST + 1, (0,))], 1))


class Voices(unittest.TestCase):
    def test_the_sum_is_told(self):
        self.assertEqual(voices(ROUND), 11)
        self.assertEqual(voices([(2, (0, 1)), (2, (0, 1))]), 4)
        self.assertEqual(voices([(7, (0,))]), 7)

    def test_nought_for_none(self):
        self.assertEqual(voices([]), 0)
        self.assertIs(type(voices([])), int)

    def test_many_voices_in_many_ballots(self):
        self.assertEqual(voices([(MOST, (0, 1))] * 99), 99 * MOST)
        self.assertEqual(voices([(MOST, (0, 1)), (1, (1, 0))]), MOST + 1)


class Lead(unittest.TestCase):
    def test_by_hand(self):
        self.assertEqual(lead(ROUND, 0, 1), 3)
        self.assertEqual(lead(ROUND, 1, 0), -3)
        self.assertEqual(lead(ROUND, 1, 2), 3)
        self.assertEqual(lead(ROUND, 2, 1), -3)
        self.assertEqual(lead(ROUND, 2, 0), 5)
        self.assertEqual(lead(ROUND, 0, 2), -5)

    def test_the_same_order_in_several_ballots_counts_each_time(self):
        votes = [(1, (0, 1)), (2, (1, 0)), (1, (0, 1)), (1, (0, 1)), (4, (1, 0)), (1, (0, 1))]
        self.assertEqual(lead(votes, 0, 1), -2)
        self.assertEqual(lead(votes, 1, 0), 2)

    def test_voices_in_all_even(self):
        self.assertEqual(lead([(1, (0, 1)), (1, (1, 0))], 0, 1), 0)
        self.assertEqual(lead([(3, (0, 1)), (1, (1, 0))], 0, 1), 2)
        self.assertEqual(lead([], 0, 1), 0)

    def test_the_greatest_ballots(self):
        votes = [(MOST, (0, 1))] * 49 + [(MOST - 1, (1, 0))] * 50
        self.assertEqual(lead(votes, 0, 1), 50 - MOST)
        self.assertEqual(lead(votes, 1, 0), MOST - 50)

    def test_each_two_unlike_things_both_ways_about(self):
        for many in range(2, 9):
            for ballots in (1, 2, 5, 12):
                for seed in range(3):
                    votes = some_votes(many, ballots, seed)
                    for one, other in permutations(range(many), 2):
                        told = lead(votes, one, other)
                        self.assertEqual(told, counted_lead(votes, one, other))
                        self.assertEqual(lead(votes, other, one), -told)
                        self.assertEqual(told % 2, voices(votes) % 2)


class TableOf(unittest.TestCase):
    def test_by_hand(self):
        self.assertEqual(table_of([(1, (0,))], 1), [[False]])
        self.assertEqual(table_of([(1, (1, 0))], 2), [[False, False], [True, False]])
        self.assertEqual(table_of(ROUND, 3), [[False, True, False], [False, False, True], [True, False, False]])

    def test_one_voice_decides(self):
        votes = [(MOST, (0, 1)), (MOST + 1, (1, 0))]
        self.assertEqual(table_of(votes, 2), [[False, False], [True, False]])

    def test_beating_is_a_lead_above_nought(self):
        for many in range(1, 9):
            for ballots in (1, 3, 8):
                for seed in range(4):
                    votes = made_odd(some_votes(many, ballots, seed))
                    table = table_of(votes, many)
                    self.assertTrue(is_full(table))
                    for one in range(many):
                        for other in range(many):
                            wanted = one != other and counted_lead(votes, one, other) > 0
                            self.assertIs(table[one][other], wanted)

    def test_rows_are_lists_of_their_own(self):
        table = table_of([(1, (0, 1, 2))], 3)
        self.assertIs(type(table), list)
        self.assertTrue(all(type(row) is list for row in table))
        table[0][1] = False
        self.assertEqual(table[1:], [[False, False, True], [False, False, False]])


class Kept(unittest.TestCase):
    def test_nothing_handed_in_changes_and_the_answer_stays(self):
        for many in range(1, 9):
            for seed in range(5):
                votes = made_odd(some_votes(many, 7, seed))
                check_kept(self, asked, list(votes), many)
                check_kept(self, voices, list(votes))
                check_kept(self, table_of, list(votes), many)
                if many > 1:
                    check_kept(self, lead, list(votes), 0, many - 1)
        check_kept(self, voices, [])


if __name__ == "__main__":
    unittest.main()
