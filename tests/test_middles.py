"""6.4: the middle thing and the order of all things by votes, with 0.2, 0.5 and 0.6 for them."""

import unittest
from itertools import combinations

from askorder.errors import BadBallot, BadOrder, Even, NotAlike
from askorder.middles import middle, ranked
from askorder.rings import rings
from askorder.votes import lead, table_of
from onlines import fits_by_words, some_line, votes_on_line
from samples import bad_votes, check_kept, check_refused, even_votes, made_odd, no_orders, some_orders, some_votes

MOST = 10 ** 30
ASKINGS = (middle, ranked)


def middle_by_words(votes, line):
    """The best things of all voices, one by one, by where they lie; the middle one of them."""
    row = sorted(line.index(order[0]) for voices, order in votes for voice in range(voices))
    return line[row[len(row) // 2]]


class OnALine(unittest.TestCase):
    def check_votes(self, votes, many, line):
        thing = middle(votes, many, line)
        self.assertTrue(all(lead(votes, thing, other) > 0 for other in range(many) if other != thing))
        row = ranked(votes, many, line)
        self.assertIs(type(row), list)
        self.assertEqual(sorted(row), list(range(many)))
        self.assertTrue(all(lead(votes, one, other) > 0 for one, other in combinations(row, 2)))
        self.assertEqual(row[0], thing)
        self.assertEqual([[one] for one in row], rings(table_of(votes, many)))
        return thing

    def test_by_hand(self):
        self.assertEqual(middle([(5, (0,))], 1, [0]), 0)
        self.assertEqual(ranked([(5, (0,))], 1, [0]), [0])
        votes = [(3, (0, 1, 2)), (1, (1, 2, 0)), (3, (2, 1, 0))]
        self.assertEqual(middle(votes, 3, [0, 1, 2]), 1)
        self.assertEqual(middle(votes, 3, [2, 1, 0]), 1)
        self.assertEqual(ranked(votes, 3, [0, 1, 2]), [1, 2, 0])
        self.assertEqual(ranked(votes, 3, [2, 1, 0]), [1, 2, 0])

    def test_the_voices_count_and_not_the_ballots(self):
        for many in range(1, 9):
            line = some_line(many, 2)
            few = (1, tuple(line))
            for place in range(many):
                order = tuple([line[place]] + line[place + 1:] + line[:place][::-1])
                votes = [few] * 98 + [(101, order)]
                self.assertEqual(self.check_votes(votes, many, line), line[place])
                votes = [(MOST, order)] + [few] * 97 + [(MOST, order)]
                self.assertEqual(self.check_votes(votes, many, line), line[place])

    def test_one_voice_decides(self):
        votes = [(MOST, (0, 1, 2)), (MOST - 1, (2, 1, 0))]
        self.assertEqual(self.check_votes(votes, 3, [0, 1, 2]), 0)
        self.assertEqual(self.check_votes([(MOST - 1, (0, 1, 2)), (MOST, (2, 1, 0))], 3, [0, 1, 2]), 2)
        self.assertEqual(self.check_votes([(MOST, (0, 1, 2)), (MOST, (2, 1, 0)), (1, (1, 0, 2))], 3, [0, 1, 2]), 1)

    def test_votes_of_all_sizes(self):
        for many in range(1, 9):
            for ballots in (1, 2, 3, 6, 15):
                for seed in range(6):
                    line = some_line(many, seed)
                    votes = votes_on_line(line, ballots, seed)
                    self.assertEqual(self.check_votes(votes, many, line), middle_by_words(votes, line))
                    self.assertEqual(middle(votes, many, line[::-1]), middle(votes, many, line))
                    self.assertEqual(ranked(votes, many, line[::-1]), ranked(votes, many, line))


class Refused(unittest.TestCase):
    def test_bad_ballots_go_ahead_of_all(self):
        for many in range(1, 9):
            for votes in bad_votes(many):
                for line in (list(range(many)), [], [0] * (many + 1)):
                    for asking in ASKINGS:
                        check_refused(self, BadBallot, asking, votes, many, line)

    def test_even_goes_ahead_of_lines_that_are_none_and_of_ballots_that_do_not_fit(self):
        for many in range(1, 9):
            good = list(range(many))
            for votes in even_votes(many):
                for line in (good, good[2:] + good[:2], [], [0] * (many + 1)):
                    for asking in ASKINGS:
                        check_refused(self, Even, asking, votes, many, line)

    def test_lines_that_do_not_tell_each_thing_once(self):
        for many in range(1, 9):
            for line in no_orders(many):
                for votes in ([(1, tuple(range(many)))], made_odd(some_votes(many, 5, 1))):
                    for asking in ASKINGS:
                        check_refused(self, BadOrder, asking, votes, many, line)

    def test_ballots_that_do_not_fit(self):
        for many in range(3, 9):
            for seed in range(3):
                votes = votes_on_line(some_line(many, seed), 3, seed)
                for line in some_orders(many, 30):
                    if not all(fits_by_words(order, line) for voices, order in votes):
                        for asking in ASKINGS:
                            check_refused(self, NotAlike, asking, votes, many, line)

    def test_one_ballot_that_does_not_fit_wherever_it_stands(self):
        line = [0, 1, 2, 3]
        good = [(1, (1, 2, 0, 3)), (1, (2, 3, 1, 0))]
        for place in range(3):
            votes = good[:place] + [(1, (0, 1, 3, 2))] + good[place:]
            for asking in ASKINGS:
                check_refused(self, NotAlike, asking, votes, 4, line)


class Kept(unittest.TestCase):
    def test_nothing_handed_in_changes_and_the_answer_stays(self):
        for many in range(1, 9):
            for seed in range(4):
                line = some_line(many, seed)
                votes = votes_on_line(line, 5, seed)
                for asking in ASKINGS:
                    check_kept(self, asking, list(votes), many, list(line))


if __name__ == "__main__":
    unittest.main()
